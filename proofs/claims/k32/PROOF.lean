import PyProof.Rows.All
import Wide.All
import OpenK.AllK
import Wide.FinOn
import Lean
import PyProof.EqAt
import PyProof.EqKinds
import PyProof.TupleCall
import KE.KIntText
import PyProof.ZipIter
import PyProof.EnumFor
import PyProof.EnumMake
import PyProof.ExcClass3
import PyProof.ExcFactsAll.ValueError
import PyProof.ExcArgs
import PyProof.InstStoreFacts
import PyProof.ExcBaseAll.ValueError
import PyProof.Rows.FStr
import KE.KRevSl
import KE.KDictSum
import PySem.Challenge.RW_drawhouse_k32_houses_refused
set_option Elab.async false
set_option linter.all false
set_option maxRecDepth 100000
namespace L2
open PySem PySem.Spec PyProof.Rows

noncomputable abbrev Key := Sum Int Str
noncomputable def keyIs : Key → Value → Bool
  | .inl k, v => Value.isInt k v
  | .inr x, v => Value.isStrOf x v
noncomputable def keyH (w : World) : Key → Int
  | .inl k => hashInt k
  | .inr x => hashStr w x
theorem keyIs_shape : ∀ {k : Key} {v : Value}, keyIs k v = true → (∃ i t, k = Sum.inl i ∧ v = Value.int i t) ∨ (∃ x t, k = Sum.inr x ∧ v = Value.str x t)
  | .inl i, v, h => by
    obtain ⟨t, e⟩ := Value.isInt_shape (k := i) (v := v) h
    exact .inl ⟨i, t, rfl, e⟩
  | .inr x, v, h => by
    obtain ⟨t, e⟩ := Value.isStrOf_shape (x := x) (v := v) h
    exact .inr ⟨x, t, rfl, e⟩
theorem key_ll (a b : Int) : decide ((Sum.inl a : Key) = Sum.inl b) = (a == b) := by
  by_cases e : a = b
  · subst e; simp
  · have h : ¬ (Sum.inl a : Key) = Sum.inl b := fun q => e (Sum.inl.inj q)
    rw [decide_eq_false h]
    exact (beq_eq_false_iff_ne.mpr e).symm
theorem key_rr (a b : Str) : decide ((Sum.inr a : Key) = Sum.inr b) = decide (a = b) := by
  by_cases e : a = b
  · subst e; simp
  · have h : ¬ (Sum.inr a : Key) = Sum.inr b := fun q => e (Sum.inr.inj q)
    rw [decide_eq_false h, decide_eq_false e]
theorem key_lr (a : Int) (b : Str) : decide ((Sum.inl a : Key) = Sum.inr b) = false := decide_eq_false (fun q => nomatch q)
theorem key_rl (a : Str) (b : Int) : decide ((Sum.inr a : Key) = Sum.inl b) = false := decide_eq_false (fun q => nomatch q)

noncomputable def mixKind (prog : Program) (w : World) : PySem.KeyKind prog w Key where
  is := keyIs
  hash := keyH w
  inj := fun v a b ha hb => by
    rcases keyIs_shape ha with ⟨i, t, rfl, rfl⟩ | ⟨x, t, rfl, rfl⟩
    · rcases keyIs_shape hb with ⟨j, u, rfl, e⟩ | ⟨y, u, rfl, e⟩
      · injection e with e1 _; rw [e1]
      · exact nomatch e
    · rcases keyIs_shape hb with ⟨j, u, rfl, e⟩ | ⟨y, u, rfl, e⟩
      · exact nomatch e
      · injection e with e1 _; rw [e1]
  byValue := fun k v h => by
    rcases keyIs_shape h with ⟨i, t, rfl, rfl⟩ | ⟨x, t, rfl, rfl⟩ <;> rfl
  pyHash := fun hv h => by
    rcases keyIs_shape hv with ⟨i, t, rfl, rfl⟩ | ⟨x, t, rfl, rfl⟩
    · exact wpAny_pyHash_int h
    · exact wpAny_pyHash_str h
  eqBool := fun hu hv h => by
    rcases keyIs_shape hu with ⟨i, t, rfl, rfl⟩ | ⟨x, t, rfl, rfl⟩
    · rcases keyIs_shape hv with ⟨j, u, rfl, rfl⟩ | ⟨y, u, rfl, rfl⟩
      · rw [key_ll] at h; exact wpAny_eqBool_int h
      · rw [key_lr] at h; exact SeqAt.EqAt.int_str i t y u _ _ _ _ h
    · rcases keyIs_shape hv with ⟨j, u, rfl, rfl⟩ | ⟨y, u, rfl, rfl⟩
      · rw [key_rl] at h; exact SeqAt.EqAt.str_int x t j u _ _ _ _ h
      · rw [key_rr] at h; exact wpAny_eqBool_str h
  «strs» := fun k x t v h => by
    rcases keyIs_shape h with ⟨i, u, rfl, e⟩ | ⟨y, u, rfl, e⟩
    · exact nomatch e
    · injection e with e1 _
      subst e1
      cases v <;> rfl

end L2

namespace L2
open PySem PySem.Spec PyProof.Rows

inductive V where
  | non | bl (b : Bool) | int (i : Int) | str (x : Str) | byt (b : Array UInt8) | flt (b : UInt64) | ref (a : Addr) | ty (n : String)
  deriving DecidableEq

noncomputable def RelV : V → Value → Prop
  | .non, u => u = Value.none
  | .bl b, u => u = Value.bool b
  | .int i, u => ∃ t, u = Value.int i t
  | .str x, u => ∃ t, u = Value.str x t
  | .byt b, u => ∃ t, u = Value.bytes b t
  | .flt b, u => ∃ t, u = Value.float b t
  | .ref a, u => u = Value.ref a
  | .ty n, u => u = Value.type n

noncomputable abbrev Vals : List V → List Value → Prop := Paired RelV
theorem Vals.length {xs : List V} {us : List Value} (r : Vals xs us) : xs.length = us.length := Paired.length r
theorem Vals.get : ∀ {xs : List V} {us : List Value} {i : Nat} {x : V}, Vals xs us → xs[i]? = some x → ∃ u, us[i]? = some u ∧ RelV x u
  | _, _, _, _, .nil, e => by simp at e
  | _, _, 0, _, .cons r _, e => by simp at e; subst e; exact ⟨_, rfl, r⟩
  | _, _, i + 1, x, .cons _ t, e => by
    obtain ⟨u, h1, h2⟩ := Vals.get (i := i) (x := x) t (by simpa using e)
    exact ⟨u, by simpa using h1, h2⟩
theorem Vals.set {x : V} {u : Value} (r : RelV x u) : ∀ {xs : List V} {us : List Value} (i : Nat), Vals xs us → Vals (xs.set i x) (us.set i u)
  | _, _, _, .nil => .nil
  | _, _, 0, .cons _ t => .cons r t
  | _, _, i + 1, .cons q t => .cons q (Vals.set r i t)
theorem Vals.append : ∀ {xs ys : List V} {us ws : List Value}, Vals xs us → Vals ys ws → Vals (xs ++ ys) (us ++ ws)
  | _, _, _, _, .nil, s => s
  | _, _, _, _, .cons r t, s => .cons r (Vals.append t s)
theorem Vals.take : ∀ {xs : List V} {us : List Value} (n : Nat), Vals xs us → Vals (xs.take n) (us.take n)
  | _, _, 0, _ => .nil
  | _, _, _ + 1, .nil => .nil
  | _, _, n + 1, .cons r t => .cons r (Vals.take n t)
theorem Vals.drop : ∀ {xs : List V} {us : List Value} (n : Nat), Vals xs us → Vals (xs.drop n) (us.drop n)
  | _, _, 0, r => r
  | _, _, _ + 1, .nil => .nil
  | _, _, n + 1, .cons _ t => Vals.drop n t
theorem Vals.none_of : ∀ {xs : List V} {us : List Value} {i : Nat}, Vals xs us → xs[i]? = none → us[i]? = none := fun {xs us i} r e => by
  have h1 := r.length
  have h2 : xs.length ≤ i := List.getElem?_eq_none_iff.mp e
  exact List.getElem?_eq_none_iff.mpr (by omega)

noncomputable def RelO : Option V → Option Value → Prop
  | some v, some u => RelV v u
  | none, none => True
  | _, _ => False
noncomputable def KV {κ : Type} : List (κ × V) → List (κ × Value) → Prop := Paired fun (p : κ × V) (q : κ × Value) => p.1 = q.1 ∧ RelV p.2 q.2

noncomputable def kV : Key → V
  | .inl i => .int i
  | .inr x => .str x

inductive HO where
  /-- a list -/
  | lst (xs : List V)
  /-- a tuple (never changes) -/
  | tup (xs : List V)
  /-- a dict whose keys are ints and texts; one whose keys are tuples of ints and texts (the empty one is both) -/
  | dK (kvs : List (Key × V)) | dT (kvs : List (List Key × V))
  /-- a set of ints: its members, its size -/
  | set (S : Int → Bool) (n : Nat)
  /-- an instance of the class at C, its dict at dx, its attributes -/
  | ins (C dx : Addr) (fs : List (Str × V))
  /-- the dict of the instance at x -/
  | own (x : Addr)
  /-- the dict of an exception -/
  | xd (fs : List (Str × V))
  /-- a bound method, f of x -/
  | met (f x : Addr)
  /-- a range object lo, lo + 1, .. below hi -/
  | rng (lo hi : Int)
  /-- a thing that is known to the object (the script; a dict while a loop walks it): read, never written while it is so -/
  | frz (o : Obj) (u : HO)
  /-- a code object's table -/
  | tbl (ps : Array Value)
  /-- any other thing, by what is true of its one object (a def of one's own: SetO a S n := HO.ext fun h => ..) -/
  | ext (φ : Heap → Prop)

noncomputable abbrev Hp := Addr → Option HO
noncomputable def upd (H : Hp) (a : Addr) (o : HO) : Hp := fun b => if b = a then some o else H b
theorem upd_same {H : Hp} {a : Addr} {o : HO} : upd H a o a = some o := by unfold upd; rw [if_pos rfl]
theorem upd_ne {H : Hp} {a b : Addr} {o : HO} (h : b ≠ a) : upd H a o b = H b := by unfold upd; rw [if_neg h]
theorem ne_of {H : Hp} {a b : Addr} {o u : HO} (h : H a = some o) (h' : H b = some u) (d : o ≠ u) : a ≠ b := by
  intro e; subst e; rw [h] at h'; exact d (Option.some.inj h')
theorem ne_of_none {H : Hp} {a b : Addr} {o : HO} (h : H a = some o) (h' : H b = none) : a ≠ b := by
  intro e; subst e; rw [h] at h'; cases h'

section
variable (P : Program) (w : World)
noncomputable def ObjOk (H : Hp) (h : Heap) (a : Addr) : HO → Prop
  | .lst xs => xs.length ≤ sizeLine ∧ ∃ (its : List Value) (n : Nat), Vals xs its ∧ h.get? a = some { cls := .type "list", data := .seq its.toArray n }
  | .tup xs => xs.length ≤ sizeLine ∧ ∃ its : List Value, Vals xs its ∧ IsTup h a its.toArray
  | .dK kvs => kvs.length ≤ sizeLine ∧ (a == sysModules) = false ∧ ∃ vs, KV kvs vs ∧ h.DictOf (mixKind P w) a vs
  | .dT kvs => kvs.length ≤ sizeLine ∧ (a == sysModules) = false ∧ ∃ xs : List (List Key × Addr × Value),
      Paired (fun (p : List Key × V) (q : List Key × Addr × Value) => p.1 = q.1 ∧ H q.2.1 = some (.tup (p.1.map kV)) ∧ RelV p.2 q.2.2) kvs xs ∧
      ∃ o es ep, h.get? a = some o ∧ o.ExactDict ∧ o.data = .dict es ep ∧ es.toList = xs.map (entryOfKey (tupleKind (mixKind P w))) ∧ (xs.map (·.1)).Nodup
  | .set S n => h.SetOf (intKind P w) a S n
  | .ins C dx fs => H dx = some (.own a) ∧ fs.length ≤ 1000 ∧ dx ≠ a ∧ h.get? a = some (PySem.W.instObj C dx) ∧
      ∃ mA, h.Ns1 dx mA ∧ (∀ f, RelO (fs.lookup f) (mA f)) ∧ PySem.Within mA (fs.map (·.1))
  | .own _ => ∃ o, h.get? a = some o
  | .xd fs => ∃ mA, h.Ns1 a mA ∧ ∀ f, RelO (fs.lookup f) (mA f)
  | .rng lo hi => ∃ t u v, h.get? a = some { cls := .type "range", data := .fields #[.int lo t, .int hi u, .int 1 v] }
  | .frz o u => h.get? a = some o ∧ ObjOk H h a u
  | .tbl ps => h.get? a = some { cls := .none, data := .fields ps }
  | .met f x => h.get? a = some (PySem.W.methodObj (.ref f) (.ref x))
  | .ext φ => φ h ∧ (∃ o, h.get? a = some o) ∧ ∀ h1 h2 : Heap, φ h1 → (∀ o, h1.get? a = some o → h2.get? a = some o) → φ h2
noncomputable def HOk (H : Hp) (h : Heap) : Prop := ∀ a o, H a = some o → ObjOk P w H h a o
end

section
variable {P : Program} {w : World} {H H' : Hp} {h h' : Heap} {a : Addr} {o : HO}
theorem ObjOk.lt (x : ObjOk P w H h a o) : a < h.objs.size := by
  cases o with
  | lst xs => obtain ⟨_, _, _, _, e⟩ := x; exact Heap.lt_size e
  | tup xs => obtain ⟨_, _, _, p⟩ := x; exact p.lt
  | dK kvs => obtain ⟨_, _, _, _, o, _, _, e, _⟩ := x; exact Heap.lt_size e
  | dT kvs => obtain ⟨_, _, _, _, o, _, _, e, _⟩ := x; exact Heap.lt_size e
  | set S n => obtain ⟨o, _, _, _, e, _⟩ := x; exact Heap.lt_size e
  | ins C dx fs => obtain ⟨_, _, _, e, _⟩ := x; exact Heap.lt_size e
  | own y => obtain ⟨_, e⟩ := x; exact Heap.lt_size e
  | xd fs => obtain ⟨_, ⟨_, _, _, e, _⟩, _⟩ := x; exact Heap.lt_size e
  | rng lo hi => obtain ⟨_, _, _, e⟩ := x; exact Heap.lt_size e
  | frz ob u => obtain ⟨e, _⟩ := x; exact Heap.lt_size e
  | tbl ps => exact Heap.lt_size (show h.get? a = some _ from x)
  | met f y => exact Heap.lt_size (show h.get? a = some _ from x)
  | ext φ => obtain ⟨_, ⟨_, e⟩, _⟩ := x; exact Heap.lt_size e
theorem Paired.mapP {α β : Type} {F G : α → β → Prop} : ∀ {l₁ : List α} {l₂ : List β}, Paired F l₁ l₂ → (∀ a b, F a b → G a b) → Paired G l₁ l₂
  | _, _, .nil, _ => .nil
  | _, _, .cons r t, f => .cons (f _ _ r) (Paired.mapP t f)
theorem ObjOk.stay (x : ObjOk P w H h a o) (k : ∀ b u, (b = a ∨ H b = some (.own a)) → h.get? b = some u → h'.get? b = some u)
    (ho : ∀ b, H b = some (.own a) → H' b = some (.own a)) (ht : ∀ b xs, H b = some (.tup xs) → H' b = some (.tup xs)) : ObjOk P w H' h' a o := by
  induction o with
  | lst xs => obtain ⟨z, its, n, r, e⟩ := x; exact ⟨z, its, n, r, k _ _ (.inl rfl) e⟩
  | tup xs => obtain ⟨z, its, r, ob, e, c⟩ := x; exact ⟨z, its, r, ob, k _ _ (.inl rfl) e, c⟩
  | dK kvs => obtain ⟨z, y, vs, r, ob, es, ep, e, c⟩ := x; exact ⟨z, y, vs, r, ob, es, ep, k _ _ (.inl rfl) e, c⟩
  | dT kvs =>
    obtain ⟨z, y, xs, r, ob, es, ep, e, c⟩ := x
    exact ⟨z, y, xs, Paired.mapP r fun p q z => ⟨z.1, ht _ _ z.2.1, z.2.2⟩, ob, es, ep, k _ _ (.inl rfl) e, c⟩
  | set S n => obtain ⟨ob, es, ep, t, e, c⟩ := x; exact ⟨ob, es, ep, t, k _ _ (.inl rfl) e, c⟩
  | ins C dx fs =>
    obtain ⟨d, z, ne, e, mA, ⟨od, es, ep, e2, c⟩, r⟩ := x
    exact ⟨ho _ d, z, ne, k _ _ (.inl rfl) e, mA, ⟨od, es, ep, k _ _ (.inr d) e2, c⟩, r⟩
  | own y => obtain ⟨ob, e⟩ := x; exact ⟨ob, k _ _ (.inl rfl) e⟩
  | xd fs => obtain ⟨mA, ⟨od, es, ep, e, c⟩, r⟩ := x; exact ⟨mA, ⟨od, es, ep, k _ _ (.inl rfl) e, c⟩, r⟩
  | rng lo hi => obtain ⟨t, u, v, e⟩ := x; exact ⟨t, u, v, k _ _ (.inl rfl) e⟩
  | frz ob u ih => obtain ⟨e, q⟩ := x; exact ⟨k _ _ (.inl rfl) e, ih q⟩
  | tbl ps =>
    have e : h.get? a = some { cls := .none, data := .fields ps } := x
    show h'.get? a = some { cls := .none, data := .fields ps }
    exact k a _ (.inl rfl) e
  | met f y =>
    have e : h.get? a = some (PySem.W.methodObj (.ref f) (.ref y)) := x
    show h'.get? a = some (PySem.W.methodObj (.ref f) (.ref y))
    exact k a _ (.inl rfl) e
  | ext φ => obtain ⟨p, ⟨o, e⟩, st⟩ := x; exact ⟨st _ _ p fun o q => k _ _ (.inl rfl) q, ⟨o, k _ _ (.inl rfl) e⟩, st⟩
theorem HOk.lt (x : HOk P w H h) (e : H a = some o) : a < h.objs.size := (x a o e).lt
theorem HOk.fresh (x : HOk P w H h) (e : h.objs.size ≤ a) : H a = none := by
  cases q : H a with
  | none => rfl
  | some u => exact absurd (Nat.lt_of_lt_of_le (x.lt q) e) (Nat.lt_irrefl _)
theorem HOk.kept (x : HOk P w H h) (k : ∀ b u, h.get? b = some u → h'.get? b = some u) : HOk P w H h' := fun a o e =>
  (x a o e).stay (fun b u _ q => k b u q) (fun _ q => q) fun _ _ q => q
theorem HOk.laid (x : HOk P w H h) (k : ∀ b u, h.get? b = some u → h'.get? b = some u) (hp : h.objs.size ≤ a) (new : ObjOk P w (upd H a o) h' a o) : HOk P w (upd H a o) h' := fun b u e => by
  have hn := x.fresh hp
  by_cases hb : b = a
  · subst hb; rw [upd_same] at e; cases e; exact new
  · rw [upd_ne hb] at e
    exact (x b u e).stay (fun c v _ q => k c v q) (fun c q => by rw [upd_ne (ne_of_none q hn)]; exact q) fun c xs q => by rw [upd_ne (ne_of_none q hn)]; exact q
end

noncomputable def Rd (H : Hp) (a : Addr) (u : HO) : Prop := H a = some u ∨ ∃ o, H a = some (.frz o u)
theorem Rd.of {H : Hp} {a : Addr} {u : HO} (h : H a = some u) : Rd H a u := .inl h
theorem Rd.ok {P : Program} {w : World} {H : Hp} {h : Heap} {a : Addr} {u : HO} (r : Rd H a u) (x : HOk P w H h) : ObjOk P w H h a u := by
  rcases r with r | ⟨o, r⟩
  · exact x a u r
  · obtain ⟨_, q⟩ := x a _ r
    exact q
noncomputable def Mut : Option HO → Prop
  | some (.lst _) => True
  | some (.dK _) => True
  | some (.dT _) => True
  | some (.set _ _) => True
  | some (.ins _ _ _) => True
  | some (.ext _) => True
  | _ => False
section
variable {P : Program} {w : World} {H : Hp} {h h' : Heap} {x e : Addr} {o' : HO}
theorem HOk.write (ok : HOk P w H h) (mu : Mut (H x)) (he : e = x ∨ H e = some (.own x)) (k : ∀ b u, b ≠ e → h.get? b = some u → h'.get? b = some u) (heo : ∃ u, h'.get? e = some u)
    (new : ObjOk P w (upd H x o') h' x o') : HOk P w (upd H x o') h' := fun b u q => by
  have nown : ∀ c y, H c = some (.own y) → c ≠ x := fun c y r z => by subst z; rw [r] at mu; exact mu
  have ntup : ∀ c xs, H c = some (.tup xs) → c ≠ x := fun c xs r z => by subst z; rw [r] at mu; exact mu
  by_cases hb : b = x
  · subst hb; rw [upd_same] at q; cases q; exact new
  · rw [upd_ne hb] at q
    by_cases hbe : b = e
    · have q' : H b = some (.own x) := by
        rcases he with z | z
        · exact absurd (hbe.trans z) hb
        · rw [hbe]; exact z
      rw [q] at q'; cases q'
      obtain ⟨v, hv⟩ := heo
      exact ⟨v, by rw [hbe]; exact hv⟩
    · refine (ok b u q).stay (fun c v hc r => k c v ?_ r) (fun c r => by rw [upd_ne (nown c b r)]; exact r) fun c xs r => by rw [upd_ne (ntup c xs r)]; exact r
      rcases hc with rfl | hc
      · exact hbe
      · rintro rfl
        rcases he with z | z
        · exact nown c b hc z
        · rw [hc] at z; cases z; exact hb rfl
end

structure Un (fs ex : List Addr) (H H' : Hp) (h h' : Heap) : Prop where
  keep : ∀ b o, h.get? b = some o → H b = none → b ∉ fs → b ∉ ex → h'.get? b = some o
  slot : ∀ b o, h.get? b = some o → H b = none → b ∈ fs → b ∉ ex → ∃ sl, h'.get? b = some { o with slots := sl }
  free : ∀ b o, h.get? b = some o → H b = none → b ∉ ex → H' b = none
  there : ∀ b o, h.get? b = some o → b ∉ ex → ∃ o', h'.get? b = some o'
  tups : ∀ b xs, H b = some (.tup xs) → H' b = some (.tup xs)
  frzs : ∀ b o u, H b = some (.frz o u) → H' b = some (.frz o u)
  tbls : ∀ b ps, H b = some (.tbl ps) → ∃ more, H' b = some (.tbl (ps ++ more))
section
variable {fs fs' ex ex' : List Addr} {H H1 H2 : Hp} {h h1 h2 h' : Heap} {a x e : Addr} {o : HO}
theorem Un.any (u : Un fs ex H H1 h h1) {b : Addr} {ob : Obj} (q : h.get? b = some ob) (n : H b = none) (hx : b ∉ ex) : ∃ sl, h1.get? b = some { ob with slots := sl } := by
  by_cases hb : b ∈ fs
  · exact u.slot b ob q n hb hx
  · exact ⟨ob.slots, u.keep b ob q n hb hx⟩
theorem Un.trans (a : Un fs ex H H1 h h1) (b : Un fs ex H1 H2 h1 h2) : Un fs ex H H2 h h2 where
  keep := fun c ob q n hc hx => b.keep c ob (a.keep c ob q n hc hx) (a.free c ob q n hx) hc hx
  slot := fun c ob q n hc hx => by
    obtain ⟨sl, e1⟩ := a.slot c ob q n hc hx
    obtain ⟨sl', e2⟩ := b.slot c _ e1 (a.free c ob q n hx) hc hx
    exact ⟨sl', e2⟩
  free := fun c ob q n hx => by
    obtain ⟨o', e1⟩ := a.there c ob q hx
    exact b.free c o' e1 (a.free c ob q n hx) hx
  there := fun c ob q hx => by
    obtain ⟨o', e1⟩ := a.there c ob q hx
    exact b.there c o' e1 hx
  tups := fun c xs q => b.tups c xs (a.tups c xs q)
  frzs := fun c ob xs q => b.frzs c ob xs (a.frzs c ob xs q)
  tbls := fun c ps q => by
    obtain ⟨m1, e1⟩ := a.tbls c ps q
    obtain ⟨m2, e2⟩ := b.tbls c _ e1
    exact ⟨m1 ++ m2, by rw [e2, Array.append_assoc]⟩
theorem Un.kept (k : ∀ b u, h.get? b = some u → h'.get? b = some u) : Un fs ex H H h h' :=
  ⟨fun b ob q _ _ _ => k b ob q, fun b ob q _ _ _ => ⟨ob.slots, k b ob q⟩, fun _ _ _ n _ => n, fun b ob q _ => ⟨ob, k b ob q⟩, fun _ _ q => q, fun _ _ _ q => q, fun _ ps q => ⟨#[], by rw [q]; simp⟩⟩
theorem Un.refl : Un fs ex H H h h := Un.kept fun _ _ q => q
theorem Un.laid (k : ∀ b u, h.get? b = some u → h'.get? b = some u) (hp : h.objs.size ≤ a) (hn : H a = none) : Un fs ex H (upd H a o) h h' where
  keep := fun b u q _ _ _ => k b u q
  slot := fun b u q _ _ _ => ⟨u.slots, k b u q⟩
  free := fun b u q n _ => by rw [upd_ne (Nat.ne_of_lt (Nat.lt_of_lt_of_le (Heap.lt_size q) hp))]; exact n
  there := fun b u q _ => ⟨u, k b u q⟩
  tups := fun b xs q => by rw [upd_ne (ne_of_none q hn)]; exact q
  frzs := fun b u xs q => by rw [upd_ne (ne_of_none q hn)]; exact q
  tbls := fun b ps q => ⟨#[], by rw [upd_ne (ne_of_none q hn), q]; simp⟩
theorem Un.write (mu : Mut (H x)) (he : e = x ∨ H e = some (.own x)) (k : ∀ b u, b ≠ e → h.get? b = some u → h'.get? b = some u) (heo : ∃ u, h'.get? e = some u) : Un fs ex H (upd H x o) h h' := by
  have hx : ∀ b, H b = none → b ≠ x := fun b n z => by subst z; rw [n] at mu; exact mu
  have hb : ∀ b, H b = none → b ≠ e := fun b n z => by
    subst z
    rcases he with r | r
    · exact hx b n r
    · rw [n] at r; cases r
  have hm : ∀ b u, H b = some u → ¬ Mut (some u) → b ≠ x := fun b u q nm z => by subst z; rw [q] at mu; exact nm mu
  refine ⟨fun b u q n _ _ => k b u (hb b n) q, fun b u q n _ _ => ⟨u.slots, k b u (hb b n) q⟩, fun b u q n _ => by rw [upd_ne (hx b n)]; exact n, fun b u q _ => ?_,
    fun b xs q => by rw [upd_ne (hm b _ q fun z => z)]; exact q, fun b u xs q => by rw [upd_ne (hm b _ q fun z => z)]; exact q, fun b ps q => ⟨#[], by rw [upd_ne (hm b _ q fun z => z), q]; simp⟩⟩
  by_cases hbe : b = e
  · subst hbe; exact heo
  · exact ⟨u, k b u hbe q⟩
theorem Un.mono (u : Un fs ex H H1 h h1) (hs : ∀ b ∈ fs, b ∈ fs') (hx : ∀ b ∈ ex, b ∈ ex') : Un fs' ex' H H1 h h1 :=
  ⟨fun b ob q n hb he => u.keep b ob q n (fun z => hb (hs b z)) fun z => he (hx b z), fun _ _ q n _ he => u.any q n fun z => he (hx _ z), fun b ob q n he => u.free b ob q n fun z => he (hx b z), fun b ob q he => u.there b ob q fun z => he (hx b z), u.tups, u.frzs, u.tbls⟩
end

noncomputable def trk (h : Heap) (H : Hp) : List Addr := (List.range h.objs.size).filter fun a => (H a).isSome
noncomputable def hidT (h : Heap) (H : Hp) : Heap := PySem.W.hideAll h (trk h H)
theorem hidT_size (h : Heap) (H : Hp) : (hidT h H).objs.size = h.objs.size := PySem.W.hideAll_size _ _
theorem hidT_get {h : Heap} {H : Hp} {b : Addr} {o : Obj} (e : h.get? b = some o) (n : H b = none) : (hidT h H).get? b = some o :=
  PySem.W.hideAll_get _ e fun hm => by
    have q : (H b).isSome = true := (List.mem_filter.mp hm).2
    rw [n] at q; simp at q
theorem of_hidT {h : Heap} {H : Hp} {b : Addr} {o : Obj} (e : (hidT h H).get? b = some o) : h.get? b = some o ∧ H b = none := by
  have e' : h.get? b = some o := PySem.W.of_hideAll (trk h H) e
  refine ⟨e', ?_⟩
  cases q : H b with
  | none => rfl
  | some x =>
    have hm : b ∈ trk h H := List.mem_filter.mpr ⟨List.mem_range.mpr (Heap.lt_size e'), by simp [q]⟩
    have z : (hidT h H).get? b = none := PySem.W.hideAll_none (trk h H) hm
    rw [z] at e; cases e

noncomputable def allNews (g h : Heap) (L : Addr) : List (Addr × Obj) := (List.range h.objs.size).filterMap fun a => if a = L ∨ (g.get? a).isSome = true then none else (h.get? a).map fun o => (a, o)
noncomputable def rest (g h : Heap) (L d : Addr) : List (Addr × Obj) := (allNews g h L).filter fun p => decide (p.1 ≠ d)
end L2

namespace L2
open PySem PySem.Spec PyProof.Rows

structure Mod (K : PySem.W.Frag) (mg : Str → Option Value) (base : Heap) : Prop where
  kin : K.In base
  glob : base.Ns mainGlobals mg
  blt : ∃ mb, base.Ns builtinsNs mb ∧ ∀ x : Str, x ≠ "__name__" → mb x = bootBuiltins x
  nolimit : base.NoLimit

structure Cx where
  prog : Program
  w : World
  K : PySem.W.Frag
  mg : Str → Option Value
  base : Heap
  A : Around
  N : List Str
  s₀ : Shared
  H₀ : Hp
  env : Env
  outer : List Env
  stack : List Env
  ex : List Addr
  fn : Str → Bool
  calm : Bool
  pn : List (Addr × Obj)
  xe : Value → Shared → Prop
noncomputable def frs (l : List Env) : List Addr := l.filterMap (·.frame)
noncomputable abbrev Cx.fs (X : Cx) : List Addr := frs X.outer

noncomputable def Vis (sc : Scope) (x : Str) : Prop := sc.names.lookup x = some .local ∨ sc.names.lookup x = some .cell ∨ sc.names.lookup x = some .free
noncomputable def Loc (sc : Scope) (x : Str) : Prop := sc.names.lookup x = some .local ∨ sc.names.lookup x = some .cell
noncomputable def Look (env : Env) (h : Heap) (m : Str → Option Value) (x : Str) (u : Value) : Prop :=
  (env.kindOf x = some .local ∧ m x = some u) ∨ ((env.kindOf x = some .cell ∨ env.kindOf x = some .free) ∧ ∃ c, env.cells.lookup x = some c ∧ h.IsCell c (some u))

structure Cx.Ok (X : Cx) : Prop where
  mod : Mod X.K X.mg X.base
  kind : X.env.scope.kind = .function
  glob : X.env.globals = mainGlobals
  blt : X.env.builtins = builtinsNs
  above : X.s₀.heap.objs.size ≤ X.env.locals
  inj : ∀ x y c, X.env.cells.lookup x = some c → X.env.cells.lookup y = some c → x = y
  has : ∀ x, (X.env.kindOf x = some .cell ∨ X.env.kindOf x = some .free) → ∃ c, X.env.cells.lookup x = some c
  cab : ∀ x c, X.fn x = true → X.env.cells.lookup x = some c → X.s₀.heap.objs.size ≤ c
  hd : X.calm = true → X.A.handled = none
  frames : X.A.frames = some X.stack
  stk : X.stack = X.outer ∨ (X.stack = X.env :: X.outer ∧ X.env.frame = some X.env.locals)
  exf : ∀ b ∈ X.ex, b ≠ X.env.locals ∧ ∀ x c, X.env.cells.lookup x = some c → c ≠ b
  bs : ∀ b o, X.base.get? b = some o → X.s₀.heap.get? b = some o ∧ X.H₀ b = none
  bsz : X.base.objs.size ≤ X.s₀.heap.objs.size
  noex : ∀ b o, X.base.get? b = some o → b ∉ X.ex
  exfs : ∀ b ∈ X.ex, b ∉ X.fs
  funs : X.s₀.heap.FunFrames X.base X.outer
  frf : ∀ b ∈ X.fs, X.H₀ b = none

structure Inv (X : Cx) (pins : List (Addr × Obj)) (σ : List (Option V)) (H : Hp) (s : Shared) : Prop where
  ok : X.Ok
  os : s.os = X.s₀.os
  bare : AllBare s.gens
  base : Un X.fs X.ex X.H₀ H X.s₀.heap s.heap
  loc : ∃ m, s.heap.Ns X.env.locals m ∧ ∀ (i : Nat) (x : Str) (v : V), X.N[i]? = some x → σ[i]? = some (some v) → Vis X.env.scope x → ∃ u, RelV v u ∧ Look X.env s.heap m x u
  cell : ∀ x c, X.env.cells.lookup x = some c → ∃ v, s.heap.IsCell c v
  free : H X.env.locals = none
  freeC : ∀ x c, X.env.cells.lookup x = some c → H c = none
  pin : ∀ p ∈ X.pn ++ pins, s.heap.get? p.1 = some p.2 ∧ H p.1 = none ∧ p.1 ≠ X.env.locals ∧ p.1 ∉ X.fs ∧ ∀ v, p.2.data ≠ .cell v
  hok : HOk X.prog X.w H s.heap
  len : σ.length = X.N.length

section
variable {X : Cx} {pins : List (Addr × Obj)} {σ : List (Option V)} {H H' : Hp} {s : Shared} {h' : Heap}

theorem Cx.Ok.nofr (ok : X.Ok) {b : Addr} {o : Obj} (e : X.base.get? b = some o) : b ∉ X.fs := fun hb => by
  have := (ok.funs.mem hb).1
  rw [e] at this; cases this
theorem Inv.bs (I : Inv X pins σ H s) : ∀ b o, X.base.get? b = some o → s.heap.get? b = some o ∧ H b = none := fun b o e =>
  ⟨I.base.keep b o (I.ok.bs b o e).1 (I.ok.bs b o e).2 (I.ok.nofr e) (I.ok.noex b o e), I.base.free b o (I.ok.bs b o e).1 (I.ok.bs b o e).2 (I.ok.noex b o e)⟩
theorem Inv.bk (I : Inv X pins σ H s) : ∀ b o, X.base.get? b = some o → s.heap.get? b = some o := fun b o e => (I.bs b o e).1
theorem Inv.mod (I : Inv X pins σ H s) : Mod X.K X.mg X.base := I.ok.mod
theorem Inv.kIn (I : Inv X pins σ H s) : X.K.In s.heap := I.ok.mod.kin.keeps I.bk
theorem Inv.nolimit (I : Inv X pins σ H s) : s.heap.NoLimit := I.ok.mod.nolimit.keeps I.bk
theorem Inv.fr (I : Inv X pins σ H s) : ∃ m, Fr X.base X.env.locals s.heap m :=
  let ⟨m, hn, _⟩ := I.loc
  ⟨m, hn, I.bk, Nat.le_trans I.ok.bsz I.ok.above⟩
theorem Inv.lt (I : Inv X pins σ H s) : X.env.locals < s.heap.objs.size := let ⟨_, hn, _⟩ := I.loc; hn.lt
theorem Inv.sz (I : Inv X pins σ H s) : X.s₀.heap.objs.size ≤ s.heap.objs.size := Nat.le_trans I.ok.above (Nat.le_of_lt I.lt)
theorem Inv.nofs (I : Inv X pins σ H s) {a : Addr} (h : s.heap.objs.size ≤ a) : a ∉ X.fs := fun hb => by
  obtain ⟨_, o, ho, _⟩ := I.ok.funs.mem hb
  exact absurd (Nat.lt_of_lt_of_le (Heap.lt_size ho) (Nat.le_trans I.sz h)) (Nat.lt_irrefl _)
theorem Inv.cne (I : Inv X pins σ H s) : ∀ x c, X.env.cells.lookup x = some c → c ≠ X.env.locals := fun x c e z => by
  obtain ⟨v, o, ho, hd⟩ := I.cell x c e
  obtain ⟨m, ⟨o', es, ep, ho', hd', _⟩, _⟩ := I.loc
  rw [z, ho'] at ho; cases ho; rw [hd'] at hd; cases hd
theorem Inv.funs (I : Inv X pins σ H s) : s.heap.FunFrames X.base X.outer := by
  have all : ∀ (l : List Env), (∀ b ∈ frs l, b ∈ X.fs) → X.s₀.heap.FunFrames X.base l → s.heap.FunFrames X.base l := by
    intro l
    induction l with
    | nil => intro _ _; trivial
    | cons env r ih =>
      intro hs hl
      obtain ⟨hk, ⟨L, o, hf, hn, ho, hd⟩, hr⟩ := hl
      have hL : L ∈ X.fs := hs L (by unfold frs; rw [List.filterMap_cons, hf]; exact List.mem_cons_self)
      obtain ⟨sl, e⟩ := I.base.slot L o ho (I.ok.frf L hL) hL fun z => I.ok.exfs L z hL
      exact ⟨hk, ⟨L, _, hf, hn, e, hd⟩, ih (fun b hb => hs b (by unfold frs; rw [List.filterMap_cons, hf]; exact List.mem_cons_of_mem _ hb)) hr⟩
  exact all X.outer (fun _ hb => hb) I.ok.funs

theorem Inv.stack (I : Inv X pins σ H s) : s.heap.FunFrames X.base X.stack := by
  rcases I.ok.stk with e | ⟨e, hf⟩
  · rw [e]; exact I.funs
  · rw [e]
    obtain ⟨m, hn, _⟩ := I.loc
    refine .cons (by rw [I.ok.kind]; decide) hf hn ?_ I.funs
    exact Heap.get?_none_of_le (Nat.le_trans I.ok.bsz I.ok.above)
theorem Inv.stkSub (I : Inv X pins σ H s) : ∀ b ∈ frs X.stack, b ∈ X.env.locals :: X.fs := fun b hb => by
  rcases I.ok.stk with e | ⟨e, hf⟩
  · rw [e] at hb; exact List.mem_cons_of_mem _ hb
  · rw [e] at hb
    unfold frs at hb
    rw [List.filterMap_cons, hf] at hb
    exact hb
theorem Inv.stkFree (I : Inv X pins σ H s) : ∀ b ∈ frs X.stack, H b = none := fun b hb => by
  rcases List.mem_cons.mp (I.stkSub b hb) with e | hb
  · rw [e]; exact I.free
  · obtain ⟨_, o, ho, _⟩ := I.ok.funs.mem hb
    exact I.base.free b o ho (I.ok.frf b hb) fun z => I.ok.exfs b z hb

theorem Inv.step {g' : Array GenState} {t' : Nat} {d' : Drawn} {ch : List Addr} (I : Inv X pins σ H s)
    (hch : ∀ b ∈ ch, (b ∈ X.ex ∨ X.s₀.heap.objs.size ≤ b) ∧ b ≠ X.env.locals ∧ (∀ x c, X.env.cells.lookup x = some c → c ≠ b) ∧ ∀ p ∈ X.pn ++ pins, p.1 ≠ b)
    (keep : ∀ b o, b ≠ X.env.locals → b ∉ X.fs → b ∉ ch → s.heap.get? b = some o → H b = none → h'.get? b = some o)
    (slot : ∀ b o, b ≠ X.env.locals → b ∈ X.fs → b ∉ ch → s.heap.get? b = some o → H b = none → ∃ sl, h'.get? b = some { o with slots := sl }) (free : ∀ b o, b ∉ ch → s.heap.get? b = some o → H b = none → H' b = none)
    (there : ∀ b o, b ∉ ch → s.heap.get? b = some o → ∃ o', h'.get? b = some o')
    (tups : ∀ b xs, H b = some (.tup xs) → H' b = some (.tup xs)) (frzs : ∀ b o u, H b = some (.frz o u) → H' b = some (.frz o u)) (tbls : ∀ b ps, H b = some (.tbl ps) → ∃ more, H' b = some (.tbl (ps ++ more)))
    (ns : ∀ m, s.heap.Ns X.env.locals m → h'.Ns X.env.locals m) (hok : HOk X.prog X.w H' h') (hg : AllBare g') :
    Inv X pins σ H' { s with heap := h', gens := g', drawn := d', toks := t' } := by
  have neL : ∀ b o, X.s₀.heap.get? b = some o → b ≠ X.env.locals := fun b o e => Nat.ne_of_lt (Nat.lt_of_lt_of_le (Heap.lt_size e) I.ok.above)
  have neC : ∀ b o, X.s₀.heap.get? b = some o → b ∉ X.ex → b ∉ ch := fun b o e hx hb => by
    rcases (hch b hb).1 with z | z
    · exact hx z
    · exact absurd (Nat.lt_of_lt_of_le (Heap.lt_size e) z) (Nat.lt_irrefl _)
  have cellK : ∀ x c, X.env.cells.lookup x = some c → ∀ v, s.heap.IsCell c v → h'.IsCell c v := fun x c e v ⟨o, ho, hd⟩ => by
    have nch : c ∉ ch := fun z => (hch c z).2.2.1 x c e rfl
    by_cases hc : c ∈ X.fs
    · obtain ⟨sl, q⟩ := slot c o (I.cne x c e) hc nch ho (I.freeC x c e)
      exact ⟨_, q, hd⟩
    · exact ⟨o, keep c o (I.cne x c e) hc nch ho (I.freeC x c e), hd⟩
  refine ⟨I.ok, I.os, hg, ⟨fun b o e n hb hx => ?_, fun b o e n hb hx => ?_, fun b o e n hx => ?_, fun b o e hx => ?_, fun b xs e => tups b xs (I.base.tups b xs e), fun b o xs e => frzs b o xs (I.base.frzs b o xs e), fun b ps e => ?_⟩, ?_, fun x c e => ?_, ?_, fun x c e => ?_, fun p hp => ?_, hok, I.len⟩
  · exact keep b o (neL b o e) hb (neC b o e hx) (I.base.keep b o e n hb hx) (I.base.free b o e n hx)
  · obtain ⟨sl, e1⟩ := I.base.slot b o e n hb hx
    obtain ⟨sl', e2⟩ := slot b _ (neL b o e) hb (neC b o e hx) e1 (I.base.free b o e n hx)
    exact ⟨sl', e2⟩
  · obtain ⟨o', e1⟩ := I.base.there b o e hx
    exact free b o' (neC b o e hx) e1 (I.base.free b o e n hx)
  · obtain ⟨o', e1⟩ := I.base.there b o e hx
    exact there b o' (neC b o e hx) e1
  · obtain ⟨m1, e1⟩ := I.base.tbls b ps e
    obtain ⟨m2, e2⟩ := tbls b _ e1
    exact ⟨m1 ++ m2, by rw [e2, Array.append_assoc]⟩
  · obtain ⟨m, hn, hl⟩ := I.loc
    refine ⟨m, ns m hn, fun i x v e1 e2 e3 => ?_⟩
    obtain ⟨u, r, l⟩ := hl i x v e1 e2 e3
    refine ⟨u, r, ?_⟩
    rcases l with l | ⟨k, c, e, z⟩
    · exact .inl l
    · exact .inr ⟨k, c, e, cellK x c e _ z⟩
  · obtain ⟨v, z⟩ := I.cell x c e
    exact ⟨v, cellK x c e v z⟩
  · obtain ⟨m, ⟨o, _, _, ho, _⟩, _⟩ := I.loc
    exact free _ o (fun z => (hch _ z).2.1 rfl) ho I.free
  · obtain ⟨v, o, ho, hd⟩ := I.cell x c e
    exact free c o (fun z => (hch c z).2.2.1 x c e rfl) ho (I.freeC x c e)
  · obtain ⟨e, n, ne, nf, d⟩ := I.pin p hp
    have nch : p.1 ∉ ch := fun z => (hch p.1 z).2.2.2 p hp rfl
    exact ⟨keep p.1 p.2 ne nf nch e n, free p.1 p.2 nch e n, ne, nf, d⟩
theorem Inv.un {t' : Nat} (I : Inv X pins σ H s) (u : Un X.fs [] H H' s.heap h') (hok : HOk X.prog X.w H' h') : Inv X pins σ H' { s with heap := h', toks := t' } := by
  obtain ⟨m, ⟨o, es, ep, ho, r⟩, _⟩ := id I.loc
  obtain ⟨sl, hL⟩ := u.any ho I.free (by simp)
  exact I.step (g' := s.gens) (d' := s.drawn) (ch := []) (fun _ z => nomatch z) (fun b o _ hb _ e n => u.keep b o e n hb (by simp)) (fun b o _ hb _ e n => u.slot b o e n hb (by simp)) (fun b o _ e n => u.free b o e n (by simp)) (fun b o _ e => u.there b o e (by simp)) u.tups u.frzs u.tbls (fun m' hm => by
    obtain ⟨o', es', ep', ho', r'⟩ := hm
    rw [ho] at ho'; cases ho'
    exact ⟨_, es', ep', hL, r'⟩) hok I.bare
theorem Inv.call {g' : Array GenState} {t' : Nat} {d' : Drawn} {ch : List Addr} (I : Inv X pins σ H s) (u : Un (frs X.stack) ch H H' s.heap h') (hok : HOk X.prog X.w H' h') (hg : AllBare g')
    (hch : ∀ b ∈ ch, (b ∈ X.ex ∨ X.s₀.heap.objs.size ≤ b) ∧ b ≠ X.env.locals ∧ (∀ x c, X.env.cells.lookup x = some c → c ≠ b) ∧ ∀ p ∈ X.pn ++ pins, p.1 ≠ b) :
    Inv X pins σ H' { s with heap := h', gens := g', drawn := d', toks := t' } := by
  obtain ⟨m, ⟨o, es, ep, ho, r⟩, _⟩ := id I.loc
  obtain ⟨sl, hL⟩ := u.any ho I.free fun z => (hch _ z).2.1 rfl
  exact I.step (ch := ch) hch (fun b o hL hb hc e n => u.keep b o e n (fun z => (List.mem_cons.mp (I.stkSub b z)).elim hL hb) hc) (fun b o _ _ hc e n => u.any e n hc) (fun b o hc e n => u.free b o e n hc) (fun b o hc e => u.there b o e hc) u.tups u.frzs u.tbls (fun m' hm => by
    obtain ⟨o', es', ep', ho', r'⟩ := hm
    rw [ho] at ho'; cases ho'
    exact ⟨_, es', ep', hL, r'⟩) hok hg
theorem Inv.turned {t' : Nat} {it : Addr} (I : Inv X pins σ H s) (k : ∀ b o, b ≠ it → s.heap.get? b = some o → h'.get? b = some o) (hn : H it = none) (hL : it ≠ X.env.locals)
    (h1 : it ∈ X.ex ∨ X.s₀.heap.objs.size ≤ it) (h2 : ∀ x c, X.env.cells.lookup x = some c → c ≠ it) (h3 : ∀ p ∈ X.pn ++ pins, p.1 ≠ it) : Inv X pins σ H { s with heap := h', toks := t' } := by
  have nit : ∀ b u, H b = some u → b ≠ it := fun b u e z => by rw [z, hn] at e; cases e
  refine I.step (g' := s.gens) (d' := s.drawn) (ch := [it]) (fun b hb => ?_) (fun b o _ _ hc e _ => k b o (fun z => hc (by simp [z])) e) (fun b o _ _ hc e _ => ⟨o.slots, k b o (fun z => hc (by simp [z])) e⟩) (fun _ _ _ _ n => n)
    (fun b o hc e => ⟨o, k b o (fun z => hc (by simp [z])) e⟩) (fun _ _ e => e) (fun _ _ _ e => e) (fun b ps e => ⟨#[], by rw [e]; simp⟩) (fun m hm => ?_) (fun b u e => ?_) I.bare
  · have e : b = it := by simpa using hb
    subst e
    exact ⟨h1, hL, h2, h3⟩
  · obtain ⟨o, es, ep, ho, r⟩ := hm
    exact ⟨o, es, ep, k _ o (Ne.symm hL) ho, r⟩
  · refine (I.hok b u e).stay (fun c v hc q => k c v ?_ q) (fun _ q => q) fun _ _ q => q
    rcases hc with z | z
    · rw [z]; exact nit b u e
    · exact nit c _ z
theorem Inv.tok (I : Inv X pins σ H s) (t : Nat) : Inv X pins σ H { s with toks := t } := I.un (h' := s.heap) (t' := t) Un.refl I.hok
theorem Inv.kept {t' : Nat} (I : Inv X pins σ H s) (k : ∀ b u, s.heap.get? b = some u → h'.get? b = some u) : Inv X pins σ H { s with heap := h', toks := t' } := I.un (Un.kept k) (I.hok.kept k)
theorem Inv.laid {a : Addr} {o : HO} {t' : Nat} (I : Inv X pins σ H s) (k : ∀ b u, s.heap.get? b = some u → h'.get? b = some u) (hp : s.heap.objs.size ≤ a) (new : ObjOk X.prog X.w (upd H a o) h' a o) :
    Inv X pins σ (upd H a o) { s with heap := h', toks := t' } := I.un (Un.laid k hp (I.hok.fresh hp)) (I.hok.laid k hp new)
theorem Inv.write {x e : Addr} {o : HO} {t' : Nat} (I : Inv X pins σ H s) (mu : Mut (H x)) (he : e = x ∨ H e = some (.own x)) (k : ∀ b u, b ≠ e → s.heap.get? b = some u → h'.get? b = some u) (heo : ∃ u, h'.get? e = some u)
    (new : ObjOk X.prog X.w (upd H x o) h' x o) : Inv X pins σ (upd H x o) { s with heap := h', toks := t' } := I.un (Un.write mu he k heo) (I.hok.write mu he k heo new)
theorem Inv.pins_of {pins' : List (Addr × Obj)} (I : Inv X pins σ H s) (h : ∀ p ∈ pins', s.heap.get? p.1 = some p.2 ∧ H p.1 = none ∧ p.1 ≠ X.env.locals ∧ p.1 ∉ X.fs ∧ ∀ v, p.2.data ≠ .cell v) : Inv X pins' σ H s :=
  ⟨I.ok, I.os, I.bare, I.base, I.loc, I.cell, I.free, I.freeC, fun p hp => (List.mem_append.mp hp).elim (fun z => I.pin p (List.mem_append_left _ z)) (h p), I.hok, I.len⟩

theorem nodup_ix {N : List Str} (hN : N.Nodup) {i j : Nat} {x : Str} (a : N[i]? = some x) (b : N[j]? = some x) : i = j := by
  obtain ⟨h1, e1⟩ := List.getElem?_eq_some_iff.mp a
  obtain ⟨h2, e2⟩ := List.getElem?_eq_some_iff.mp b
  exact (List.getElem_inj hN).mp (e1.trans e2.symm)

theorem store_ok2 {M : Model} {A : Around} {E : Value → Shared → Prop} {i : Nat} {x : Str} {v : V} {u : Value} {Q : Unit → Shared → Prop} (I : Inv X pins σ H s) (hN : X.N.Nodup) (hi : X.N[i]? = some x) (hx : Loc X.env.scope x) (r : RelV v u)
    (h : ∀ s', Inv X pins (σ.set i (some v)) H s' → (∃ a, Heap.SameBut a s.heap s'.heap ∧ (a = X.env.locals ∨ X.env.cells.lookup x = some a)) → Q () s') (hf : X.fn x = true ∨ X.env.scope.names.lookup x = some .local := by first | exact .inl rfl | exact .inr rfl | assumption) : wpAny M A (storeName X.env x u) Q E s := by
  obtain ⟨m, hn, hl⟩ := id I.loc
  have hcls : (X.env.scope.kind == .class || (X.env.scope.kind == .module && X.env.locals != X.env.globals)) = false := by rw [I.ok.kind]; rfl
  have hiσ : i < σ.length := by rw [I.len]; exact (List.getElem?_eq_some_iff.mp hi).1
  have cne := I.cne
  have tracked : ∀ {a : Addr} {h' : Heap}, (∃ o, s.heap.get? a = some o ∧ H a = none) → Heap.SameBut a s.heap h' → HOk X.prog X.w H h' := fun {a h'} ha hs b ob e => by
    obtain ⟨_, _, hfree⟩ := ha
    refine (I.hok b ob e).stay (fun c w' hc q => (hs.2 c ?_).trans q) (fun _ q => q) fun _ _ q => q
    rintro rfl
    rcases hc with rfl | hc
    · rw [hfree] at e; cases e
    · rw [hfree] at hc; cases hc
  rcases hx with hk | hk
  · refine wpAny_storeName_local hk hn (fun h' hn' hs => ?_) hcls
    obtain ⟨oL, _, _, hoL, _⟩ := id hn
    refine h _ ⟨I.ok, I.os, I.bare, ⟨fun b o e n hb hx => ?_, fun b o e n hb hx => ?_, I.base.free, fun b o e hx => ?_, I.base.tups, I.base.frzs, I.base.tbls⟩, ⟨_, hn', fun j y v' e1 e2 e3 => ?_⟩, fun y c e => ?_, I.free, I.freeC, fun p hp => ?_, tracked ⟨oL, hoL, I.free⟩ hs, by simpa using I.len⟩ ⟨_, hs, .inl rfl⟩
    · exact (hs.2 b (Nat.ne_of_lt (Nat.lt_of_lt_of_le (Heap.lt_size e) I.ok.above))).trans (I.base.keep b o e n hb hx)
    · obtain ⟨sl, e1⟩ := I.base.slot b o e n hb hx
      exact ⟨sl, (hs.2 b (Nat.ne_of_lt (Nat.lt_of_lt_of_le (Heap.lt_size e) I.ok.above))).trans e1⟩
    · obtain ⟨o', e1⟩ := I.base.there b o e hx
      exact ⟨o', (hs.2 b (Nat.ne_of_lt (Nat.lt_of_lt_of_le (Heap.lt_size e) I.ok.above))).trans e1⟩
    · by_cases hj : j = i
      · subst hj
        rw [hi] at e1; cases e1
        rw [List.getElem?_set_self hiσ] at e2
        cases e2
        exact ⟨u, r, .inl ⟨hk, by simp⟩⟩
      · rw [List.getElem?_set_ne (Ne.symm hj)] at e2
        obtain ⟨u', r', q⟩ := hl j y v' e1 e2 e3
        refine ⟨u', r', ?_⟩
        rcases q with ⟨k, e⟩ | ⟨k, c, e, z⟩
        · refine .inl ⟨k, ?_⟩
          have : y ≠ x := fun e => hj (nodup_ix hN e1 (e ▸ hi))
          simp [this, e]
        · exact .inr ⟨k, c, e, z.sameBut hs (cne y c e)⟩
    · obtain ⟨w', z⟩ := I.cell y c e
      exact ⟨w', z.sameBut hs (cne y c e)⟩
    · obtain ⟨e, n, ne, nf, d⟩ := I.pin p hp
      exact ⟨(hs.2 p.1 ne).trans e, n, ne, nf, d⟩
  · have hfn : X.fn x = true := by
      rcases hf with z | z
      · exact z
      · rw [z] at hk; cases hk
    obtain ⟨c, hc⟩ := I.ok.has x (.inl hk)
    obtain ⟨w', z⟩ := I.cell x c hc
    refine wpAny_storeName_cell I.ok.kind hk hc z (fun h' hc' hs => ?_)
    obtain ⟨oc, hoc, hocd⟩ := id z
    refine h { s with heap := h' } ⟨I.ok, I.os, I.bare, ⟨fun b o e n hb hx => ?_, fun b o e n hb hx => ?_, I.base.free, fun b o e hx => ?_, I.base.tups, I.base.frzs, I.base.tbls⟩, ⟨m, hn.sameBut hs (Ne.symm (cne x c hc)), fun j y v' e1 e2 e3 => ?_⟩, fun y c' e => ?_, I.free, I.freeC, fun p hp => ?_, tracked ⟨oc, hoc, I.freeC x c hc⟩ hs, by simpa using I.len⟩ ⟨c, hs, .inr hc⟩
    · exact (hs.2 b (Nat.ne_of_lt (Nat.lt_of_lt_of_le (Heap.lt_size e) (I.ok.cab x c hfn hc)))).trans (I.base.keep b o e n hb hx)
    · obtain ⟨sl, e1⟩ := I.base.slot b o e n hb hx
      exact ⟨sl, (hs.2 b (Nat.ne_of_lt (Nat.lt_of_lt_of_le (Heap.lt_size e) (I.ok.cab x c hfn hc)))).trans e1⟩
    · obtain ⟨o', e1⟩ := I.base.there b o e hx
      exact ⟨o', (hs.2 b (Nat.ne_of_lt (Nat.lt_of_lt_of_le (Heap.lt_size e) (I.ok.cab x c hfn hc)))).trans e1⟩
    · by_cases hj : j = i
      · subst hj
        rw [hi] at e1; cases e1
        rw [List.getElem?_set_self hiσ] at e2
        cases e2
        exact ⟨u, r, .inr ⟨.inl hk, c, hc, hc'⟩⟩
      · rw [List.getElem?_set_ne (Ne.symm hj)] at e2
        obtain ⟨u', r', q⟩ := hl j y v' e1 e2 e3
        refine ⟨u', r', ?_⟩
        rcases q with q | ⟨k, c', e, z'⟩
        · exact .inl q
        · refine .inr ⟨k, c', e, z'.sameBut hs ?_⟩
          rintro rfl
          exact hj (nodup_ix hN e1 (I.ok.inj _ _ _ e hc ▸ hi))
    · by_cases hcc : c' = c
      · subst hcc; exact ⟨_, hc'⟩
      · obtain ⟨w2, z2⟩ := I.cell y c' e
        exact ⟨w2, z2.sameBut hs hcc⟩
    · obtain ⟨e, n, ne, nf, d⟩ := I.pin p hp
      refine ⟨(hs.2 p.1 ?_).trans e, n, ne, nf, d⟩
      intro q
      rw [q, hoc] at e
      have q' : oc = p.2 := Option.some.inj e
      exact d w' (by rw [← q']; exact hocd)
theorem store_ok {M : Model} {A : Around} {E : Value → Shared → Prop} {i : Nat} {x : Str} {v : V} {u : Value} {Q : Unit → Shared → Prop} (I : Inv X pins σ H s) (hN : X.N.Nodup) (hi : X.N[i]? = some x) (hx : Loc X.env.scope x) (r : RelV v u)
    (h : ∀ s', Inv X pins (σ.set i (some v)) H s' → Q () s') (hf : X.fn x = true ∨ X.env.scope.names.lookup x = some .local := by first | exact .inl rfl | exact .inr rfl | assumption) : wpAny M A (storeName X.env x u) Q E s :=
  store_ok2 I hN hi hx r (fun s' I' _ => h s' I') hf
theorem Inv.call' {s' : Shared} {ch : List Addr} (I : Inv X pins σ H s) (ho : s'.os = s.os) (u : Un (frs X.stack) ch H H' s.heap s'.heap) (hok : HOk X.prog X.w H' s'.heap) (hg : AllBare s'.gens)
    (hch : ∀ b ∈ ch, (b ∈ X.ex ∨ X.s₀.heap.objs.size ≤ b) ∧ b ≠ X.env.locals ∧ (∀ x c, X.env.cells.lookup x = some c → c ≠ b) ∧ ∀ p ∈ X.pn ++ pins, p.1 ≠ b) : Inv X pins σ H' s' := by
  obtain ⟨h', g', d', t', o'⟩ := s'
  have e : o' = s.os := ho
  subst e
  exact I.call (g' := g') (t' := t') (d' := d') u hok hg hch
end

noncomputable abbrev XK := Value → Option Addr → Hp → Prop
noncomputable abbrev St := List (Option V)
noncomputable abbrev VK := V → Hp → Prop
noncomputable abbrev TE := St → Hp → VK → Prop
noncomputable abbrev TT := St → Hp → (Bool → Hp → Prop) → Prop
noncomputable abbrev TA := St → Hp → (List V → Hp → Prop) → Prop
structure Ends where
  nx : St → Hp → Prop
  rt : VK
  bk : St → Hp → Prop := fun _ _ => False
  ct : St → Hp → Prop := fun _ _ => False
noncomputable abbrev TS := Ends → St → Hp → Prop

noncomputable def EP (X : Cx) (pins : List (Addr × Obj)) (σ : St) (Q : VK) (u : Value) (s' : Shared) : Prop := ∃ v H', Inv X pins σ H' s' ∧ RelV v u ∧ Q v H'
noncomputable def TP (X : Cx) (pins : List (Addr × Obj)) (σ : St) (Q : Bool → Hp → Prop) (b : Bool) (s' : Shared) : Prop := ∃ H', Inv X pins σ H' s' ∧ Q b H'
noncomputable def AP (X : Cx) (pins : List (Addr × Obj)) (σ : St) (Q : List V → Hp → Prop) (us : List Value) (s' : Shared) : Prop := ∃ vs H', Inv X pins σ H' s' ∧ Vals vs us ∧ Q vs H'
noncomputable def SP (X : Cx) (pins : List (Addr × Obj)) (D : Ends) (f : Flow) (s' : Shared) : Prop :=
  match f with
  | .next => ∃ σ' H', Inv X pins σ' H' s' ∧ D.nx σ' H'
  | .brk => ∃ σ' H', Inv X pins σ' H' s' ∧ D.bk σ' H'
  | .cont => ∃ σ' H', Inv X pins σ' H' s' ∧ D.ct σ' H'
  | .ret u => ∃ v σ' H', Inv X pins σ' H' s' ∧ RelV v u ∧ D.rt v H'

noncomputable def PE (X : Cx) (e : Expr) (t : TE) : Prop :=
  ∀ (pins : List (Addr × Obj)) (s : Shared) (σ : St) (H : Hp) (Q : VK), Inv X pins σ H s → t σ H Q → wpAny (model X.prog X.w) X.A (eval e X.env) (EP X pins σ Q) X.xe s
noncomputable def PT (X : Cx) (e : Expr) (t : TT) : Prop :=
  ∀ (pins : List (Addr × Obj)) (s : Shared) (σ : St) (H : Hp) (Q : Bool → Hp → Prop), Inv X pins σ H s → t σ H Q → wpAny (model X.prog X.w) X.A (isTrue e X.env (eval e X.env)) (TP X pins σ Q) X.xe s
noncomputable def PW (X : Cx) (e : Expr) (t : TT) : Prop :=
  ∀ (whole : Sem Value) (pins : List (Addr × Obj)) (s : Shared) (σ : St) (H : Hp) (Q : Bool → Hp → Prop), Inv X pins σ H s → t σ H Q → wpAny (model X.prog X.w) X.A (isTrue e X.env whole) (TP X pins σ Q) X.xe s
theorem PW.pt {X : Cx} {e : Expr} {t : TT} (h : PW X e t) : PT X e t := h _
noncomputable def PA (X : Cx) (es : List Expr) (t : TA) : Prop :=
  ∀ (pos : Pos) (pins : List (Addr × Obj)) (s : Shared) (σ : St) (H : Hp) (Q : List V → Hp → Prop), Inv X pins σ H s → t σ H Q → wpAny (model X.prog X.w) X.A (spliced (backTo pos (starEach es X.env))) (AP X pins σ Q) X.xe s
noncomputable def PS (X : Cx) (st : Stmt) (t : TS) : Prop :=
  ∀ (pins : List (Addr × Obj)) (s : Shared) (σ : St) (H : Hp) (D : Ends), Inv X pins σ H s → t D σ H → wpAny (model X.prog X.w) X.A (exec st X.env) (SP X pins D) X.xe s
noncomputable def PSs (X : Cx) (st : List Stmt) (t : TS) : Prop :=
  ∀ (pins : List (Addr × Obj)) (s : Shared) (σ : St) (H : Hp) (D : Ends), Inv X pins σ H s → t D σ H → wpAny (model X.prog X.w) X.A (execs st X.env) (SP X pins D) X.xe s
theorem thn {α : Type} {t : Sem α} {Q Q' : α → Shared → Prop} {M : Model} {A : Around} {E : Value → Shared → Prop} {s : Shared} (h : wpAny M A t Q E s) (hQ : ∀ a s, Q a s → Q' a s) : wpAny M A t Q' E s := wpAny_mono h hQ fun _ _ x => x
end L2

namespace L2
open PySem PySem.Spec PyProof.Rows
section
variable {X : Cx}

noncomputable def tVar (i : Nat) : TE := fun σ H Q => ∃ v, σ[i]? = some (some v) ∧ Q v H
noncomputable def tC (v : V) : TE := fun _ H Q => Q v H
theorem pe_var {i : Nat} {x : Str} {pos : Pos} (hN : X.N[i]? = some x) (hv : Vis X.env.scope x) (hd : (x == ("__debug__" : Str)) = false := by decide) (hcd : (x == ("__classdict__" : Str)) = false := by decide) : PE X (.Name x pos) (tVar i) := by
  intro pins s σ H Q I h
  obtain ⟨v, e, h⟩ := h
  obtain ⟨m, hn, hl⟩ := I.loc
  obtain ⟨u, r, l⟩ := hl i x v hN e hv
  have fin : EP X pins σ Q u s := ⟨v, H, I, r, h⟩
  rcases l with ⟨hk, hm⟩ | ⟨hk, c, hc, hcell⟩
  · exact wpAny_Name (wpAny_loadName_local I.ok.kind hk hn hm fin) hd
  · rcases hk with hk | hk
    · exact wpAny_Name (wpAny_loadName_cell I.ok.kind hk hc hcell fin) hd
    · exact wpAny_Name (wpAny_loadName_free I.ok.kind hk hc hcell fin hcd) hd
theorem pe_int {i j pos} : PE X (.Constant (.int i) j pos) (tC (.int i)) := fun _ _ _ H _ I h => wpAny_Constant_int ⟨.int i, H, I.tok _, ⟨_, rfl⟩, h⟩
theorem pe_bl {b j pos} : PE X (.Constant (.bool b) j pos) (tC (.bl b)) := fun _ _ _ H _ I h => Constant_bool ⟨.bl b, H, I, rfl, h⟩
theorem pe_str {x j pos} : PE X (.Constant (.str x) j pos) (tC (.str x)) := fun _ _ _ H _ I h => Calls.Constant_str ⟨.str x, H, I.tok _, ⟨_, rfl⟩, h⟩

noncomputable def Gl (X : Cx) (x : Str) : Prop := X.env.kindOf x = some .globalImplicit
theorem ld_glob {E : Value → Shared → Prop} {pins : List (Addr × Obj)} {s : Shared} {σ : St} {H : Hp} {x : Str} {u : Value} {pos : Pos} {Q : Value → Shared → Prop} (I : Inv X pins σ H s) (hg : Gl X x) (hm : X.mg x = some u) (h : Q u s)
    (hd : (x == ("__debug__" : Str)) = false := by decide) : wpAny (model X.prog X.w) X.A (eval (.Name x pos) X.env) Q E s :=
  Calls.Name_function_global I.ok.kind hg (Calls.loadGlobal_global (by rw [I.ok.glob]; exact I.mod.glob.keeps I.bk) hm h) hd
theorem ld_blt {E : Value → Shared → Prop} {pins : List (Addr × Obj)} {s : Shared} {σ : St} {H : Hp} {x : Str} {u : Value} {pos : Pos} {Q : Value → Shared → Prop} (I : Inv X pins σ H s) (hg : Gl X x) (hm : X.mg x = none) (hv : bootBuiltins x = some u) (h : Q u s)
    (hn : x ≠ "__name__" := by decide) (hd : (x == ("__debug__" : Str)) = false := by decide) : wpAny (model X.prog X.w) X.A (eval (.Name x pos) X.env) Q E s := by
  obtain ⟨mb, h1, h2⟩ := I.mod.blt
  exact Calls.Name_function_global I.ok.kind hg (Calls.loadGlobal_builtin (by rw [I.ok.glob]; exact I.mod.glob.keeps I.bk) hm (by rw [I.ok.blt]; exact h1.keeps I.bk) ((h2 x hn).trans hv) h) hd
theorem pe_glob {x : Str} {v : V} {u : Value} {pos : Pos} (hg : Gl X x) (hm : X.mg x = some u) (r : RelV v u) (hd : (x == ("__debug__" : Str)) = false := by decide) : PE X (.Name x pos) (tC v) :=
  fun _ _ _ H _ I h => ld_glob I hg hm ⟨v, H, I, r, h⟩ hd
theorem pe_bltn {x : Str} {v : V} {u : Value} {pos : Pos} (hg : Gl X x) (hm : X.mg x = none) (hv : bootBuiltins x = some u) (r : RelV v u) (hn : x ≠ "__name__" := by decide) (hd : (x == ("__debug__" : Str)) = false := by decide) : PE X (.Name x pos) (tC v) :=
  fun _ _ _ H _ I h => ld_blt I hg hm hv ⟨v, H, I, r, h⟩ hn hd

variable {a b : Expr} {ta tb : TE} {pos : Pos}
noncomputable def tB (t : TE) : TT := fun σ H Q => t σ H fun x H1 => ∃ c, x = .bl c ∧ Q c H1
theorem pt_val {e : Expr} {t : TE} (h : PE X e t) (he : ∀ whole, isTrue e X.env whole = (do let v ← whole; standAt e.pos; holding [v] (truthy v)) := by intro _; rfl) : PT X e (tB t) := by
  intro pins s σ H Q I hw
  refine isTrue_plain (thn (h pins s σ H _ I hw) fun v s1 ⟨x, H1, I1, r1, q1⟩ => ?_) (he _)
  obtain ⟨d, rfl, q⟩ := q1
  cases r1
  exact wpAny_truthy_bool ⟨H1, I1, q⟩

variable {tA tB' : TT} {rest : List Expr}
noncomputable def tAnd (t u : TT) : TT := fun σ H Q => t σ H fun c H1 => if c = true then u σ H1 Q else Q false H1
noncomputable def tOr (t u : TT) : TT := fun σ H Q => t σ H fun c H1 => if c = true then Q true H1 else u σ H1 Q
noncomputable def tNot (t : TT) : TT := fun σ H Q => t σ H fun c H1 => Q (!c) H1
theorem pw_and1 (ha : PT X a tA) : PW X (.BoolOp .And [a] pos) tA := by
  intro wh pins s σ H Q I h
  refine isTrue_and (thn (ha pins s σ H Q I h) fun c s1 e => ?_)
  cases c with
  | true => exact isTrue_and_nil e
  | false => exact e
theorem pw_or1 (ha : PT X a tA) : PW X (.BoolOp .Or [a] pos) tA := by
  intro wh pins s σ H Q I h
  refine isTrue_or (thn (ha pins s σ H Q I h) fun c s1 e => ?_)
  cases c with
  | false => exact isTrue_or_nil e
  | true => exact e
theorem pw_and (ha : PT X a tA) (hb : PW X (.BoolOp .And (b :: rest) pos) tB') : PW X (.BoolOp .And (a :: b :: rest) pos) (tAnd tA tB') := by
  intro wh pins s σ H Q I h
  refine isTrue_and (thn (ha pins s σ H _ I h) fun c s1 ⟨H1, I1, q1⟩ => ?_)
  cases c with
  | true => exact hb wh pins s1 σ H1 Q I1 q1
  | false => exact ⟨H1, I1, q1⟩
theorem pw_or (ha : PT X a tA) (hb : PW X (.BoolOp .Or (b :: rest) pos) tB') : PW X (.BoolOp .Or (a :: b :: rest) pos) (tOr tA tB') := by
  intro wh pins s σ H Q I h
  refine isTrue_or (thn (ha pins s σ H _ I h) fun c s1 ⟨H1, I1, q1⟩ => ?_)
  cases c with
  | true => exact ⟨H1, I1, q1⟩
  | false => exact hb wh pins s1 σ H1 Q I1 q1
theorem pt_not (ha : PT X a tA) : PT X (.UnaryOp .Not a pos) (tNot tA) := by
  intro pins s σ H Q I h
  exact isTrue_not (ha pins s σ H (fun c H1 => Q (!c) H1) I h)
noncomputable def tAndV (ta tb : TE) : TE := fun σ H Q => ta σ H fun x H1 => ∃ c, x = .bl c ∧ if c = true then tb σ H1 Q else Q (.bl false) H1
theorem pe_one {op} {t : TE} (h : PE X a t) : PE X (.BoolOp op [a] pos) t := fun pins s σ H Q I hw => BoolOp_one (h pins s σ H Q I hw)
theorem pe_and (ha : PE X a ta) (hb : PE X (.BoolOp .And (b :: rest) pos) tb) : PE X (.BoolOp .And (a :: b :: rest) pos) (tAndV ta tb) := by
  intro pins s σ H Q I h
  refine BoolOp_and (thn (ha pins s σ H _ I h) fun v s1 ⟨x, H1, I1, r1, q1⟩ => ?_)
  obtain ⟨c, rfl, q1⟩ := q1
  cases r1
  refine wpAny_truthy_bool ?_
  cases c with
  | true => exact hb pins s1 σ H1 Q I1 q1
  | false => exact ⟨.bl false, H1, I1, rfl, q1⟩
end
end L2

namespace L2
open PySem PySem.Spec PyProof.Rows

noncomputable def SqL (K : PySem.W.Frag) (H : Hp) (a : Addr) (xs : List V) : Prop :=
  Rd H a (.lst xs) ∨
    ∃ (o : Obj) (its : Array Value) (n : Nat), K.lookup a = some o ∧ o.cls = .type "list" ∧ o.dict = none ∧ o.data = .seq its n ∧ its.size ≤ sizeLine ∧ Vals xs its.toList
noncomputable def SqT (K : PySem.W.Frag) (H : Hp) (a : Addr) (xs : List V) : Prop :=
  Rd H a (.tup xs) ∨
    ∃ (o : Obj) (its : Array Value) (n : Nat), K.lookup a = some o ∧ o.cls = .type "tuple" ∧ o.data = .seq its n ∧ its.size ≤ sizeLine ∧ Vals xs its.toList
noncomputable def absV : Value → Option V
  | .none => some .non
  | .bool b => some (.bl b)
  | .int i _ => some (.int i)
  | .str x _ => some (.str x)
  | .bytes b _ => some (.byt b)
  | .float b _ => some (.flt b)
  | .ref a => some (.ref a)
  | .type n => some (.ty n)
  | _ => none
theorem RelV.abs {x : V} {u : Value} (r : RelV x u) : absV u = some x := by
  cases x with
  | non => cases r; rfl
  | bl _ => cases r; rfl
  | int _ => obtain ⟨t, rfl⟩ := r; rfl
  | str _ => obtain ⟨t, rfl⟩ := r; rfl
  | byt _ => obtain ⟨t, rfl⟩ := r; rfl
  | flt _ => obtain ⟨t, rfl⟩ := r; rfl
  | ref _ => cases r; rfl
  | ty _ => cases r; rfl
theorem RelV.inj {x y : V} {u : Value} (r : RelV x u) (q : RelV y u) : x = y := Option.some.inj (r.abs.symm.trans q.abs)
theorem Vals.inj : ∀ {xs ys : List V} {us : List Value}, Vals xs us → Vals ys us → xs = ys
  | _, _, _, .nil, .nil => rfl
  | _, _, _, .cons r t, .cons r' t' => by rw [r.inj r', Vals.inj t t']
section
variable {X : Cx} {pins : List (Addr × Obj)} {σ : St} {H : Hp} {s : Shared} {a : Addr} {xs ys : List V}
theorem SqL.of {K : PySem.W.Frag} (h : H a = some (.lst xs)) : SqL K H a xs := .inl (.inl h)
theorem SqT.of {K : PySem.W.Frag} (h : H a = some (.tup xs)) : SqT K H a xs := .inl (.inl h)
theorem Inv.list (I : Inv X pins σ H s) (h : SqL X.K H a xs) : ∃ its : List Value, Vals xs its ∧ PlainL s.heap a its.toArray ∧ xs.length ≤ sizeLine := by
  rcases h with h | ⟨o, its, n, hk, hc, hd, hs, hz, r⟩
  · obtain ⟨z, its, n, r, e⟩ := h.ok I.hok
    exact ⟨its, r, ⟨_, n, e, rfl, rfl, rfl⟩, z⟩
  · refine ⟨its.toList, r, ⟨o, n, I.kIn a o hk, hc, hd, by simpa using hs⟩, ?_⟩
    have e := r.length
    simp only [Array.length_toList] at e
    omega
theorem Inv.tuple (I : Inv X pins σ H s) (h : SqT X.K H a xs) : ∃ its : List Value, Vals xs its ∧ IsTup s.heap a its.toArray ∧ xs.length ≤ sizeLine := by
  rcases h with h | ⟨o, its, n, hk, hc, hs, hz, r⟩
  · obtain ⟨z, its, r, p⟩ := h.ok I.hok
    exact ⟨its, r, p, z⟩
  · refine ⟨its.toList, r, ⟨o, I.kIn a o hk, hc, n, by simpa using hs⟩, ?_⟩
    have e := r.length
    simp only [Array.length_toList] at e
    omega
theorem Inv.list_inj (I : Inv X pins σ H s) (h : SqL X.K H a xs) (h' : SqL X.K H a ys) : xs = ys := by
  obtain ⟨its, r, ⟨o, n, e, _, _, d⟩, _⟩ := I.list h
  obtain ⟨its', r', ⟨o', n', e', _, _, d'⟩, _⟩ := I.list h'
  rw [e] at e'; cases e'
  rw [d] at d'
  injection d' with d1 _
  have : its = its' := by simpa using congrArg Array.toList d1
  subst this
  exact r.inj r'
end

noncomputable abbrev Cx.wish (X : Cx) (E : Value → Shared → Prop) : Cx := { X with xe := E }
noncomputable abbrev Cx.nox (X : Cx) : Cx := X.wish fun _ _ => False
theorem Cx.Ok.wish {X : Cx} (ok : X.Ok) (E : Value → Shared → Prop) : (X.wish E).Ok :=
  ⟨ok.mod, ok.kind, ok.glob, ok.blt, ok.above, ok.inj, ok.has, ok.cab, ok.hd, ok.frames, ok.stk, ok.exf, ok.bs, ok.bsz, ok.noex, ok.exfs, ok.funs, ok.frf⟩
theorem Cx.Ok.unwish {X : Cx} {E : Value → Shared → Prop} (ok : (X.wish E).Ok) : X.Ok :=
  ⟨ok.mod, ok.kind, ok.glob, ok.blt, ok.above, ok.inj, ok.has, ok.cab, ok.hd, ok.frames, ok.stk, ok.exf, ok.bs, ok.bsz, ok.noex, ok.exfs, ok.funs, ok.frf⟩
section
variable {X : Cx} {pins : List (Addr × Obj)} {σ : St} {H : Hp} {s : Shared} {E : Value → Shared → Prop}
theorem Inv.wish (I : Inv X pins σ H s) (E : Value → Shared → Prop) : Inv (X.wish E) pins σ H s := ⟨I.ok.wish E, I.os, I.bare, I.base, I.loc, I.cell, I.free, I.freeC, I.pin, I.hok, I.len⟩
theorem Inv.unwish (I : Inv (X.wish E) pins σ H s) : Inv X pins σ H s := ⟨I.ok.unwish, I.os, I.bare, I.base, I.loc, I.cell, I.free, I.freeC, I.pin, I.hok, I.len⟩
theorem SP.unwish {D : Ends} {f : Flow} {s' : Shared} (h : SP (X.wish E) pins D f s') : SP X pins D f s' := by
  cases f with
  | next => obtain ⟨σ', H', I, q⟩ := h; exact ⟨σ', H', I.unwish, q⟩
  | brk => obtain ⟨σ', H', I, q⟩ := h; exact ⟨σ', H', I.unwish, q⟩
  | cont => obtain ⟨σ', H', I, q⟩ := h; exact ⟨σ', H', I.unwish, q⟩
  | ret u => obtain ⟨v, σ', H', I, r, q⟩ := h; exact ⟨v, σ', H', I.unwish, r, q⟩
theorem PE.nox {e : Expr} {t : TE} (h : PE X.nox e t) : PE X e t := fun pins s σ H Q I hw =>
  wpAny_mono (h pins s σ H Q (I.wish _) hw) (fun _ _ ⟨v, H', I', r, q⟩ => ⟨v, H', I'.unwish, r, q⟩) fun _ _ z => False.elim z
theorem PT.nox {e : Expr} {t : TT} (h : PT X.nox e t) : PT X e t := fun pins s σ H Q I hw =>
  wpAny_mono (h pins s σ H Q (I.wish _) hw) (fun _ _ ⟨H', I', q⟩ => ⟨H', I'.unwish, q⟩) fun _ _ z => False.elim z
theorem PSs.nox {st : List Stmt} {t : TS} (h : PSs X.nox st t) : PSs X st t := fun pins s σ H D I hw =>
  wpAny_mono (h pins s σ H D (I.wish _) hw) (fun _ _ q => q.unwish) fun _ _ z => False.elim z
end

section
variable {X : Cx} {st : Stmt} {rest : List Stmt} {t u : TS} {e : Expr} {te : TE} {pos : Pos}
noncomputable def tNext : TS := fun D σ H => D.nx σ H
noncomputable def tSeq (t u : TS) : TS := fun D σ H => t { D with nx := u D } σ H
theorem pss_nil : PSs X [] tNext := fun _ _ σ H _ I h => wpAny_execs_nil ⟨σ, H, I, h⟩
theorem pss_cons (h1 : PS X st t) (h2 : PSs X rest u) : PSs X (st :: rest) (tSeq t u) := by
  intro pins s σ H D I h
  refine wpAny_execs_cons (thn (h1 pins s σ H { D with nx := u D } I h) fun f s1 q => ?_)
  cases f with
  | next =>
    obtain ⟨σ', H', I', q⟩ := q
    exact h2 pins s1 σ' H' D I' q
  | ret v => exact q
  | brk => exact q
  | cont => exact q
theorem pss_one (h1 : PS X st t) : PSs X [st] t := by
  intro pins s σ H D I h
  refine wpAny_execs_cons (thn (h1 pins s σ H D I h) fun f s1 q => ?_)
  cases f with
  | next => exact wpAny_execs_nil q
  | ret v => exact q
  | brk => exact q
  | cont => exact q
theorem Inv.quiet {pins : List (Addr × Obj)} {σ : St} {H : Hp} {s : Shared} (I : Inv X pins σ H s) : interactive X.env = false := by simp [interactive, I.ok.kind]
noncomputable def tDrop (te : TE) : TS := fun D σ H => te σ H fun _ H1 => D.nx σ H1
theorem ps_expr (he : PE X e te) (hs : swapsWith e none pos.line X.env = pure false := by rfl) : PS X (.Expr e pos) (tDrop te) := by
  intro pins s σ H D I h
  exact wpAny_Expr_any (thn (he pins s σ H _ I h) fun v s1 ⟨x, H1, I1, r1, q1⟩ => ⟨σ, H1, I1, q1⟩) I.quiet hs
noncomputable def tRet (te : TE) : TS := fun D σ H => te σ H D.rt
theorem ps_ret (he : PE X e te) : PS X (.Return (some e) pos) (tRet te) := by
  intro pins s σ H D I h
  exact wpAny_Return_some (thn (he pins s σ H _ I h) fun v s1 ⟨x, H1, I1, r1, q1⟩ => ⟨x, σ, H1, I1, r1, q1⟩)
noncomputable def tIfS (c : TT) (t u : TS) : TS := fun D σ H => c σ H fun b H1 => if b = true then t D σ H1 else u D σ H1
theorem ps_if {c : Expr} {a b : List Stmt} {tc : TT} (hc : PT X c tc) (ha : PSs X a t) (hb : PSs X b u) : PS X (.If c a b pos) (tIfS tc t u) := by
  intro pins s σ H D I h
  refine wpAny_If (thn (hc pins s σ H _ I h) fun d s1 ⟨H1, I1, q1⟩ => ?_)
  cases d with
  | true => exact ha pins s1 σ H1 D I1 q1
  | false => exact hb pins s1 σ H1 D I1 q1
end

noncomputable abbrev TG := V → St → Hp → (St → Hp → Prop) → Prop
noncomputable abbrev TGs := List V → St → Hp → (St → Hp → Prop) → Prop
noncomputable def PG (X : Cx) (target : Expr) (t : TG) : Prop :=
  ∀ (pins : List (Addr × Obj)) (s : Shared) (σ : St) (H : Hp) (v : V) (u : Value) (Q : St → Hp → Prop), Inv X pins σ H s → RelV v u → t v σ H Q →
    wpAny (model X.prog X.w) X.A (assign target X.env u) (fun _ s' => ∃ σ' H', Inv X pins σ' H' s' ∧ Q σ' H') X.xe s
noncomputable def PGs (X : Cx) (ts : List Expr) (t : TGs) : Prop :=
  ∀ (pins : List (Addr × Obj)) (s : Shared) (σ : St) (H : Hp) (vs : List V) (us : List Value) (Q : St → Hp → Prop), Inv X pins σ H s → Vals vs us → t vs σ H Q →
    wpAny (model X.prog X.w) X.A (assignInOrder ((assignEach ts X.env).map (·.2)) us) (fun _ s' => ∃ σ' H', Inv X pins σ' H' s' ∧ Q σ' H') X.xe s
section
variable {X : Cx} {pos : Pos}
noncomputable def gName (i : Nat) : TG := fun v σ H Q => Q (σ.set i (some v)) H
theorem pg_name {i : Nat} {x : Str} (hN : X.N.Nodup) (hi : X.N[i]? = some x) (hx : Loc X.env.scope x) (hf : X.fn x = true ∨ X.env.scope.names.lookup x = some .local := by first | exact .inl rfl | exact .inr rfl | assumption) : PG X (.Name x pos) (gName i) := by
  intro pins s σ H v u Q I r h
  exact wpAny_assign_Name (store_ok I hN hi hx r (fun s' I' => ⟨_, H, I', h⟩) hf)
noncomputable def gNil : TGs := fun vs σ H Q => vs = [] ∧ Q σ H
noncomputable def gCons (t : TG) (u : TGs) : TGs := fun vs σ H Q => ∃ v r, vs = v :: r ∧ t v σ H fun σ' H' => u r σ' H' Q
theorem pgs_nil : PGs X [] gNil := by
  intro pins s σ H vs us Q I r h
  obtain ⟨e, h⟩ := h
  subst e
  cases r
  exact assignInOrder_nil ⟨σ, H, I, h⟩
theorem pgs_cons {e : Expr} {es : List Expr} {t : TG} {u : TGs} (h1 : PG X e t) (h2 : PGs X es u)
    (hs : (assignEach (e :: es) X.env).map (·.2) = assign e X.env :: (assignEach es X.env).map (·.2) := by rfl) : PGs X (e :: es) (gCons t u) := by
  intro pins s σ H vs us Q I r h
  obtain ⟨v, vr, e1, h⟩ := h
  subst e1
  cases r with
  | cons r rr =>
    rw [hs]
    refine assignInOrder_cons (thn (h1 pins s σ H _ _ _ I r h) fun _ s1 ⟨σ1, H1, I1, q1⟩ => ?_)
    exact h2 pins s1 σ1 H1 _ _ Q I1 rr q1
noncomputable def gTup (K : PySem.W.Frag) (n : Nat) (t : TGs) : TG := fun v σ H Q => ∃ a xs, v = .ref a ∧ SqT K H a xs ∧ xs.length = n ∧ t xs σ H Q
theorem pg_tup {es : List Expr} {k : Nat} {t : TGs} {n : Nat} (hc : X.calm = true) (h : PGs X es t)
    (hn : (assignEach es X.env).length = n := by rfl) (hst : (assignEach es X.env).findIdx? (·.1) = none := by rfl) : PG X (.Tuple es k pos) (gTup X.K n t) := by
  intro pins s σ H v u Q I r hw
  obtain ⟨a, xs, e1, hq, hl, hw⟩ := hw
  subst e1
  cases r
  obtain ⟨its, rv, ht, hz⟩ := I.tuple hq
  refine assign_Tuple_tuple (I.ok.hd hc) ht (by simp [hn, ← hl, rv.length]) hst fun h' hx => ?_
  have I1 : Inv X pins σ H { s with heap := h' } := I.kept (t' := s.toks) fun b o e => hx b o (Nat.ne_of_lt (Heap.lt_size e)) e
  exact h pins _ σ H xs _ Q I1 (by simpa using rv) hw
noncomputable def tAsg (te : TE) (g : TG) : TS := fun D σ H => te σ H fun x H1 => g x σ H1 D.nx
theorem ps_asg {tg e : Expr} {te : TE} {g : TG} (he : PE X e te) (hg : PG X tg g) (hs : swapsWithSole [tg] e pos.line X.env = pure false := by rfl) (hw : swappedStores [tg] e X.env = pure none := by rfl)
    (h1 : (assignEach [tg] X.env).map (·.2) = [assign tg X.env] := by rfl) : PS X (.Assign [tg] e pos) (tAsg te g) := by
  intro pins s σ H D I h
  refine wpAny_Assign_stores (thn (he pins s σ H _ I h) fun v s1 ⟨x, H1, I1, r1, q1⟩ => ?_) hs hw
  rw [h1]
  exact thn (hg pins s1 σ H1 x v _ I1 r1 q1) fun _ s2 q => q
theorem ps_set {i : Nat} {x : Str} {e : Expr} {te : TE} {pos' : Pos} (hN : X.N.Nodup) (hi : X.N[i]? = some x) (hx : Loc X.env.scope x) (he : PE X e te) (hs : swapsWith e (some (.Name x pos')) pos.line X.env = pure false := by rfl) (hf : X.fn x = true ∨ X.env.scope.names.lookup x = some .local := by first | exact .inl rfl | exact .inr rfl | assumption) :
    PS X (.Assign [.Name x pos'] e pos) (tAsg te (gName i)) := by
  intro pins s σ H D I h
  refine wpAny_Assign_Name (thn (he pins s σ H _ I h) fun v s1 ⟨y, H1, I1, r1, q1⟩ => ?_) hs
  exact store_ok I1 hN hi hx r1 (fun s2 I2 => ⟨_, H1, I2, q1⟩) hf
end

section
variable {X : Cx} {pos : Pos}
end

structure It where
  go : Nat → Hp → Prop
  yld : Nat → Hp → V → Hp → Prop
  stop : Nat → Hp → Prop
noncomputable def FpOk (X : Cx) (pins : List (Addr × Obj)) (H : Hp) (b : Addr) : Prop :=
  H b = none ∧ b ≠ X.env.locals ∧ b ∉ X.fs ∧ (b ∈ X.ex ∨ X.s₀.heap.objs.size ≤ b) ∧ (∀ x c, X.env.cells.lookup x = some c → c ≠ b) ∧ ∀ p ∈ X.pn ++ pins, p.1 ≠ b
theorem Inv.fpOk {X : Cx} {pins : List (Addr × Obj)} {σ : St} {H H' : Hp} {s : Shared} {b : Addr} (I : Inv X pins σ H s) (hb : s.heap.objs.size ≤ b) (hn : H' b = none) : FpOk X pins H' b := by
  refine ⟨hn, Nat.ne_of_gt (Nat.lt_of_lt_of_le I.lt hb), I.nofs hb, .inr (Nat.le_trans I.sz hb), fun x c e z => ?_, fun p hp z => ?_⟩
  · obtain ⟨v, q⟩ := I.cell x c e
    exact absurd (Nat.lt_of_lt_of_le q.lt (by rw [z]; exact hb)) (Nat.lt_irrefl _)
  · exact absurd (Nat.lt_of_lt_of_le (Heap.lt_size (I.pin p hp).1) (by rw [z]; exact hb)) (Nat.lt_irrefl _)
structure Turn (P : Program) (w : World) (K : PySem.W.Frag) (tg : Expr) (J : It) (fp : List Addr) (it : Addr) (tn : Nat → Heap → Prop) : Prop where
  mem : it ∈ fp
  obj : ∀ i h, tn i h → ∀ b ∈ fp, ∃ o, h.get? b = some o ∧ ∀ v, o.data ≠ .cell v
  keep : ∀ i h h', tn i h → (∀ b ∈ fp, ∀ o, h.get? b = some o → h'.get? b = some o) → tn i h'
  item : ∀ (X : Cx), X.prog = P → X.w = w → X.K = K → X.calm = true → ∀ (i : Nat) (pins : List (Addr × Obj)) (s : Shared) (σ : St) (H : Hp) (E : Value → Shared → Prop), Inv X pins σ H s → (∀ b ∈ fp, FpOk X pins H b) → tn i s.heap → J.go i H →
    wpAny (model P w) X.A (pyNext (.ref it)) (fun r s1 => ∃ u, r = some u ∧
      wpAny (model P w) X.A (letOwnedTupleGo tg (.ref it) u) (fun _ s2 => ∃ x H', Inv X pins σ H' s2 ∧ RelV x u ∧ J.yld i H x H' ∧ tn (i + 1) s2.heap ∧ ∀ b ∈ fp, H' b = none) E s1) E s
  done : ∀ (X : Cx), X.prog = P → X.w = w → X.K = K → X.calm = true → ∀ (i : Nat) (pins : List (Addr × Obj)) (s : Shared) (σ : St) (H : Hp) (E : Value → Shared → Prop), Inv X pins σ H s → (∀ b ∈ fp, FpOk X pins H b) → tn i s.heap → J.stop i H →
    wpAny (model P w) X.A (pyNext (.ref it)) (fun r s1 => r = none ∧ Inv X pins σ H s1) E s
  self : ∀ (A : Around) (i : Nat) (s : Shared) (Q : Value → Shared → Prop) (E : Value → Shared → Prop), tn i s.heap → Q (.ref it) s → wpAny (model P w) A (pyIter (.ref it)) Q E s
noncomputable abbrev TI := St → Hp → (It → Hp → Prop) → Prop
noncomputable def PIE (X : Cx) (pins : List (Addr × Obj)) (σ : St) (tg : Expr) (R : It → Hp → Prop) (itv : Value) (s2 : Shared) : Prop :=
  ∃ (it : Addr) (fp : List Addr) (tn : Nat → Heap → Prop) (J : It) (H' : Hp), itv = .ref it ∧ Inv X pins σ H' s2 ∧ Turn X.prog X.w X.K tg J fp it tn ∧ tn 0 s2.heap ∧ (∀ b ∈ fp, FpOk X pins H' b) ∧ R J H'
noncomputable def PI (X : Cx) (tg iter : Expr) (wi : TI) : Prop :=
  ∀ (pins : List (Addr × Obj)) (s : Shared) (σ : St) (H : Hp) (R : It → Hp → Prop), Inv X pins σ H s → wi σ H R →
    wpAny (model X.prog X.w) X.A (eval iter X.env) (fun v s1 => wpAny (model X.prog X.w) X.A (pyIter v) (PIE X pins σ tg R) X.xe s1) X.xe s

theorem go_of {M : Model} {A : Around} {E : Value → Shared → Prop} {s : Shared} {tg : Expr} {it : Addr} {u : Value} {o : Obj} {n : String} {vs : Array Value} {Q : Unit → Shared → Prop} (ho : s.heap.get? it = some o) (hc : o.cls = .type n) (hd : o.data = .fields vs)
    (hn : ["enumerate", "zip", "dict_itemiterator", "dict_reverseitemiterator", "odict_iterator", "itertools.zip_longest", "itertools.pairwise"].contains n = false) (hQ : Q () s) : wpAny M A (letOwnedTupleGo tg (.ref it) u) Q E s := by
  unfold letOwnedTupleGo
  cases tg <;> first
    | exact wpAny_pure hQ
    | (cases u <;> first
        | exact wpAny_pure hQ
        | (refine wpAny_bind (wpAny_load ho ?_)
           rw [hc, hd]
           show wpAny M A (if (["enumerate", "zip", "dict_itemiterator", "dict_reverseitemiterator", "odict_iterator", "itertools.zip_longest", "itertools.pairwise"].contains n && vs[0]? == some (rawInt _)) = true then _ else _) Q E s
           rw [if_neg (by intro h; rw [hn, Bool.false_and] at h; cases h)]
           exact wpAny_pure hQ))

noncomputable def Itl (K : PySem.W.Frag) (a : Addr) : It :=
  ⟨fun i H => ∃ xs x, SqL K H a xs ∧ xs[i]? = some x, fun i H x H' => H' = H ∧ ∀ xs, SqL K H a xs → xs[i]? = some x, fun i H => ∃ xs, SqL K H a xs ∧ xs.length ≤ i⟩
noncomputable def Itr (lo : Int) (n : Nat) : It := ⟨fun i _ => i < n, fun i H x H' => H' = H ∧ x = .int (lo + i), fun i _ => n ≤ i⟩
theorem turn_list {P : Program} {w : World} {K : PySem.W.Frag} {tg : Expr} (a it : Addr) : Turn P w K tg (Itl K a) [it] it (fun i h => h.IsListIter it a i) where
  mem := by simp
  obj := fun i h st b hb => by
    have e : b = it := by simpa using hb
    subst e
    obtain ⟨o, e, c, d⟩ := st
    exact ⟨o, e, fun v z => by rw [d] at z; cases z⟩
  keep := fun i h h' st k => st.at fun o e => k it (by simp) o e
  item := by
    intro X hP hw hK hc i pins s σ H E I hf st hg
    subst hP hw hK
    obtain ⟨xs, x, hq, hx⟩ := hg
    obtain ⟨its, rv, p, hz⟩ := I.list hq
    obtain ⟨u, hu, ru⟩ := rv.get hx
    obtain ⟨f0, f1, f2, f3, f4, f5⟩ := hf it (by simp)
    refine wpAny_pyNext_list_item st p.isList (x := u) (by simpa using hu) fun h' st' sb => ?_
    have I1 : Inv X pins σ H { s with heap := h' } := I.turned (t' := s.toks) (fun b o hb e => (sb.2 b hb).trans e) f0 f1 f3 f4 f5
    obtain ⟨o, e, c, d⟩ := id st'
    exact ⟨u, rfl, go_of (s := { s with heap := h' }) e c d (by decide) ⟨x, H, I1, ru, ⟨rfl, fun ys hy => by rw [I.list_inj hy hq]; exact hx⟩, st', fun b hb => (hf b hb).1⟩⟩
  done := by
    intro X hP hw hK hc i pins s σ H E I hf st hg
    subst hP hw hK
    obtain ⟨xs, hq, hx⟩ := hg
    obtain ⟨its, rv, p, hz⟩ := I.list hq
    obtain ⟨f0, f1, f2, f3, f4, f5⟩ := hf it (by simp)
    have hl := rv.length
    exact wpAny_pyNext_list_end (I.ok.hd hc) st p.isList (by simp; omega) fun h' eb => ⟨rfl, I.turned (t' := s.toks) (fun b o hb e => eb b o hb e) f0 f1 f3 f4 f5⟩
  self := fun _ _ _ _ _ st h => wpAny_pyIter_listiter st h
theorem turn_range {P : Program} {w : World} {K : PySem.W.Frag} {tg : Expr} (it : Addr) (lo : Int) (n : Nat) : Turn P w K tg (Itr lo n) [it] it (fun i h => IsRangeIter h it (lo + (i : Nat) * 1) ((n : Int) - (i : Nat)) 1) where
  mem := by simp
  obj := fun i h st b hb => by
    have e : b = it := by simpa using hb
    subst e
    exact ⟨_, st, fun v z => by
      have z' : Data.fields _ = Data.cell v := z
      cases z'⟩
  keep := fun i h h' st k => k it (by simp) _ st
  item := by
    intro X hP hw hK hc i pins s σ H E I hf st hg
    subst hP hw hK
    obtain ⟨f0, f1, f2, f3, f4, f5⟩ := hf it (by simp)
    have W := Walks.range (prog := X.prog) (w := X.w) (I.ok.hd hc) it lo 1 n
    refine W.item i s _ _ hg st fun v h' tk hv st' kk => ?_
    obtain ⟨t, rfl⟩ := hv
    have I1 : Inv X pins σ H { s with heap := h', toks := tk } := I.turned (fun b o hb e => kk b o (by simpa using hb) e) f0 f1 f3 f4 f5
    refine ⟨_, rfl, go_of (s := { s with heap := h', toks := tk }) (n := "range_iterator") st' rfl rfl (by decide) ⟨.int (lo + i), H, I1, ⟨t, ?_⟩, ⟨rfl, rfl⟩, st', fun b hb => (hf b hb).1⟩⟩
    rw [Int.mul_one]
  done := by
    intro X hP hw hK hc i pins s σ H E I hf st hg
    subst hP hw hK
    obtain ⟨f0, f1, f2, f3, f4, f5⟩ := hf it (by simp)
    exact wpAny_pyNext_range_end (I.ok.hd hc) st (by have : n ≤ i := hg; omega) fun h' eb => ⟨rfl, I.turned (t' := s.toks) (fun b o hb e => eb b o hb e) f0 f1 f3 f4 f5⟩
  self := fun _ _ _ _ _ st h => wpAny_pyIter_rangeiter st h
end L2

namespace L2
open PySem PySem.Spec PyProof.Rows
section
variable {X : Cx} {tg : Expr}
noncomputable def iList (K : PySem.W.Frag) (tl : TE) : TI := fun σ H R => tl σ H fun x H1 => ∃ a, x = .ref a ∧ (∃ xs, SqL K H1 a xs) ∧ R (Itl K a) H1
theorem pi_list {l : Expr} {tl : TE} (hl : PE X l tl) : PI X tg l (iList X.K tl) := by
  intro pins s σ H R I h
  refine thn (hl pins s σ H _ I h) fun v s1 ⟨x, H1, I1, r1, q1⟩ => ?_
  obtain ⟨a, e, ⟨xs, hq⟩, q⟩ := q1
  subst e
  cases r1
  obtain ⟨its, rv, p, hz⟩ := I1.list hq
  refine wpAny_pyIter_list p.isList ?_
  refine ⟨s1.heap.objs.size, [s1.heap.objs.size], _, _, H1, rfl, I1.kept (t' := s1.toks) fun b o e => Heap.get?_push_of_some _ e, turn_list a _, ⟨_, Heap.get?_push_size _ rfl, rfl, rfl⟩, fun b hb => ?_, q⟩
  have e : b = s1.heap.objs.size := by simpa using hb
  subst e
  exact I1.fpOk (Nat.le_refl _) (I1.hok.fresh (Nat.le_refl _))
theorem range_it {pins : List (Addr × Obj)} {σ : St} {H : Hp} {s : Shared} {R : It → Hp → Prop} {E : Value → Shared → Prop} {lo hi : Int} {t u v : Tok} {tk : Nat} (I : Inv X pins σ H s) (h1 : -(2 ^ 62) ≤ lo) (h2 : lo < 2 ^ 62) (h3 : -(2 ^ 62) ≤ hi) (h4 : hi < 2 ^ 62)
    (q : R (Itr lo (hi - lo).toNat) H) : wpAny (model X.prog X.w) X.A (pyIter (.ref s.heap.objs.size)) (PIE X pins σ tg R) E { s with heap := s.heap.push { cls := .type "range", data := .fields #[.int lo t, .int hi u, .int 1 v] }, toks := tk } := by
  refine wpAny_pyIter_range (IsRange.new ..) (small_one h1 h2 h3 h4) ?_
  have I1 : Inv X pins σ H { s with heap := s.heap.push { cls := .type "range", data := .fields #[.int lo t, .int hi u, .int 1 v] }, toks := tk } := I.kept fun b o e => Heap.get?_push_of_some _ e
  refine ⟨(s.heap.push { cls := .type "range", data := .fields #[.int lo t, .int hi u, .int 1 v] }).objs.size, [(s.heap.push { cls := .type "range", data := .fields #[.int lo t, .int hi u, .int 1 v] }).objs.size], _, _, H, rfl,
    I1.kept (t' := tk) fun b o e => Heap.get?_push_of_some _ e, turn_range _ lo (hi - lo).toNat, ?_, fun b hb => ?_, q⟩
  · have e1 : lo + ((0 : Nat) : Int) * 1 = lo := by simp
    have e2 : (((hi - lo).toNat : Nat) : Int) - ((0 : Nat) : Int) = Builtin.Range.rangeSize lo hi 1 := by rw [rangeSize_one]; split <;> omega
    show IsRangeIter _ _ (lo + ((0 : Nat) : Int) * 1) ((((hi - lo).toNat : Nat) : Int) - ((0 : Nat) : Int)) 1
    rw [e1, e2]
    exact Heap.get?_push_size _ rfl
  · have e : b = (s.heap.push { cls := .type "range", data := .fields #[.int lo t, .int hi u, .int 1 v] }).objs.size := by simpa using hb
    subst e
    exact I1.fpOk (Nat.le_refl _) (I1.hok.fresh (Nat.le_refl _))
noncomputable def iRng1 (ta : TA) : TI := fun σ H R => ta σ H fun vs H1 => ∃ j : Int, vs = [.int j] ∧ -(2 ^ 62) ≤ j ∧ j < 2 ^ 62 ∧ R (Itr 0 j.toNat) H1
theorem pi_range1 {a : Expr} {ta : TA} {p pos : Pos} (hg : Gl X "range") (hm : X.mg "range" = none) (ha : PA X [a] ta) (hs : starEach [a] X.env = [(false, eval a X.env)] := by rfl) : PI X tg (.Call (.Name "range" p) [a] [] pos) (iRng1 ta) := by
  intro pins s σ H R I h
  refine Call_ (ld_blt I hg hm boot_range (PyProof.Rows.callWith_type1 (thn (ha pos pins s σ H _ I h) fun us s1 ⟨vs, H1, I1, r1, q1⟩ => ?_) hs rfl))
  obtain ⟨j, e, q1, q2, q⟩ := q1
  subst e
  cases r1 with
  | cons r rr =>
    cases rr
    obtain ⟨t, rfl⟩ := r
    exact call_range_1 (range_it I1 (by omega) (by omega) q1 q2 (by simpa using q))
noncomputable def tFor (wi : TI) (g : TG) (tb : TS) : TS := fun D σ H => wi σ H fun J H1 => ∃ W : Nat → Nat → St → Hp → Prop, (∃ m, W 0 m σ H1) ∧ ∀ i m σ H, W i m σ H →
  (J.stop i H ∧ D.nx σ H) ∨ (J.go i H ∧ ∃ N : St → Hp → Prop, (∀ σ' H', N σ' H' → ∃ m', m' < m ∧ W (i + 1) m' σ' H') ∧ ∀ x H', J.yld i H x H' → g x σ H' fun σ2 H2 => tb { D with nx := N, ct := N, bk := D.nx } σ2 H2)
noncomputable def pinsAt (fp : List Addr) (h : Heap) : List (Addr × Obj) := fp.filterMap fun b => (h.get? b).map fun o => (b, o)
theorem mem_pinsAt {fp : List Addr} {h : Heap} {b : Addr} {o : Obj} (hb : b ∈ fp) (e : h.get? b = some o) : (b, o) ∈ pinsAt fp h := List.mem_filterMap.mpr ⟨b, hb, by rw [e]; rfl⟩
theorem of_pinsAt {fp : List Addr} {h : Heap} {p : Addr × Obj} (hp : p ∈ pinsAt fp h) : p.1 ∈ fp ∧ h.get? p.1 = some p.2 := by
  obtain ⟨b, hb, e⟩ := List.mem_filterMap.mp hp
  cases q : h.get? b with
  | none => rw [q] at e; cases e
  | some o =>
    rw [q] at e
    have e' : (b, o) = p := Option.some.inj e
    subst e'
    exact ⟨hb, q⟩
theorem Inv.pinned {pins : List (Addr × Obj)} {σ : St} {H : Hp} {s : Shared} {fp : List Addr} (I : Inv X pins σ H s) (hf : ∀ b ∈ fp, FpOk X pins H b) (ho : ∀ b ∈ fp, ∃ o, s.heap.get? b = some o ∧ ∀ v, o.data ≠ .cell v) : Inv X (pins ++ pinsAt fp s.heap) σ H s :=
  I.pins_of fun p hp => (List.mem_append.mp hp).elim (fun z => I.pin p (List.mem_append_right _ z)) fun z => by
    obtain ⟨hb, e⟩ := of_pinsAt z
    obtain ⟨f0, f1, f2, _⟩ := hf p.1 hb
    obtain ⟨o, e', d⟩ := ho p.1 hb
    rw [e] at e'; cases e'
    exact ⟨e, f0, f1, f2, d⟩
theorem Inv.unpinned {pins pl : List (Addr × Obj)} {σ : St} {H : Hp} {s : Shared} (I : Inv X (pins ++ pl) σ H s) : Inv X pins σ H s := I.pins_of fun p hp => I.pin p (List.mem_append_right _ (List.mem_append_left _ hp))
theorem ps_for {iter : Expr} {body : List Stmt} {wi : TI} {g : TG} {tb : TS} {pos : Pos} (hp : PassesOwn (model X.prog X.w) X.A X.env X.xe) (hc : X.calm = true) (hi : PI X tg iter wi) (hg : PG X tg g) (hb : PSs X body tb)
    (hs : ∀ x, foldedSetIterable iter X.env x = pure x := by intro _; rfl) : PS X (.For tg iter body [] pos) (tFor wi g tb) := by
  intro pins s σ H D I h
  refine wpAny_For (thn (hi pins s σ H _ I h) fun v s1 h1 => thn h1 fun itv s2 h2 => ?_) hs
  obtain ⟨it, fp, tn, J, H2, e, I2, T, st2, f2, W, ⟨m0, w0⟩, turn⟩ := h2
  subst e
  -- what stays true of the iterator's objects through the loop
  have stat : ∀ {H' : Hp}, (∀ b ∈ fp, H' b = none) → ∀ b ∈ fp, FpOk X pins H' b := fun hn b hb => ⟨hn b hb, (f2 b hb).2⟩
  refine codeAny_forLoop_any (fun n s' => ∃ i σ' H', Inv X pins σ' H' s' ∧ tn i s'.heap ∧ (∀ b ∈ fp, H' b = none) ∧ W i n σ' H') ?_ m0 ⟨0, σ, H2, I2, st2, fun b hb => (f2 b hb).1, w0⟩
  rintro n s3 ⟨i, σ3, H3, I3, st3, fr3, w3⟩
  rcases turn i n σ3 H3 w3 with ⟨stop, qn⟩ | ⟨go, N, hN, step⟩
  · refine wpAny_passesOwn hp (thn (T.done X rfl rfl rfl hc i pins s3 σ3 H3 X.xe I3 (stat fr3) st3 stop) fun r s4 ⟨hr, I4⟩ => ?_)
    subst hr
    exact wpAny_execs_nil ⟨σ3, H3, I4, qn⟩
  · refine wpAny_passesOwn hp (thn (T.item X rfl rfl rfl hc i pins s3 σ3 H3 X.xe I3 (stat fr3) st3 go) fun r s4 ⟨u, hr, h4⟩ => ?_)
    subst hr
    refine wpAny_passesOwn hp (thn h4 fun _ s5 ⟨x, H5, I5, r5, y5, st5, fr5⟩ => ?_)
    have I5' := I5.pinned (stat fr5) (T.obj _ _ st5)
    refine wpAny_passesOwn hp (thn (hg _ s5 σ3 H5 x u _ I5' r5 (step x H5 y5)) fun _ s6 ⟨σ6, H6, I6, q6⟩ => ?_)
    refine wpAny_passesOwn hp (thn (hb _ s6 σ6 H6 _ I6 q6) fun f s7 q7 => ?_)
    have again : ∀ {σ7 : St} {H7 : Hp}, Inv X (pins ++ pinsAt fp s5.heap) σ7 H7 s7 → N σ7 H7 → ∃ m, m < n ∧ ∃ i σ' H', Inv X pins σ' H' s7 ∧ tn i s7.heap ∧ (∀ b ∈ fp, H' b = none) ∧ W i m σ' H' := fun {σ7 H7} I7 n7 => by
      obtain ⟨m', hm, w7⟩ := hN σ7 H7 n7
      refine ⟨m', hm, i + 1, σ7, H7, I7.unpinned, T.keep _ _ _ st5 fun b hb o e => (I7.pin (b, o) (List.mem_append_right _ (List.mem_append_right _ (mem_pinsAt hb e)))).1, fun b hb => ?_, w7⟩
      obtain ⟨o, e, d⟩ := T.obj _ _ st5 b hb
      exact (I7.pin (b, o) (List.mem_append_right _ (List.mem_append_right _ (mem_pinsAt hb e)))).2.1
    cases f with
    | next => obtain ⟨σ7, H7, I7, n7⟩ := q7; exact again I7 n7
    | cont => obtain ⟨σ7, H7, I7, n7⟩ := q7; exact again I7 n7
    | brk => obtain ⟨σ7, H7, I7, q7⟩ := q7; exact ⟨σ7, H7, I7.unpinned, q7⟩
    | ret v => obtain ⟨x7, σ7, H7, I7, r7, q7⟩ := q7; exact ⟨x7, σ7, H7, I7.unpinned, r7, q7⟩
end

theorem for_list {K : PySem.W.Frag} {a : Addr} {xs : List V} {g : TG} {tb : TS} {D : Ends} {σ : St} {H : Hp} (Pv : Nat → St → Hp → Prop) (h0 : Pv 0 σ H) (hl : ∀ i σ H, i ≤ xs.length → Pv i σ H → SqL K H a xs)
    (hs : ∀ i x σ H, xs[i]? = some x → Pv i σ H → g x σ H fun σ2 H2 => tb { D with nx := Pv (i + 1), ct := Pv (i + 1), bk := D.nx } σ2 H2) (hd : ∀ σ H, Pv xs.length σ H → D.nx σ H) :
    ∃ W : Nat → Nat → St → Hp → Prop, (∃ m, W 0 m σ H) ∧ ∀ i m σ H, W i m σ H →
      ((Itl K a).stop i H ∧ D.nx σ H) ∨ ((Itl K a).go i H ∧ ∃ N : St → Hp → Prop, (∀ σ' H', N σ' H' → ∃ m', m' < m ∧ W (i + 1) m' σ' H') ∧ ∀ x H', (Itl K a).yld i H x H' → g x σ H' fun σ2 H2 => tb { D with nx := N, ct := N, bk := D.nx } σ2 H2) := by
  refine ⟨fun i m σ H => m = xs.length - i ∧ i ≤ xs.length ∧ Pv i σ H, ⟨xs.length, by simp, Nat.zero_le _, h0⟩, ?_⟩
  rintro i m σ H ⟨rfl, hi, p⟩
  have q := hl i σ H hi p
  by_cases hlt : i < xs.length
  · refine .inr ⟨⟨xs, xs[i], q, by simp [hlt]⟩, Pv (i + 1), fun σ' H' p' => ⟨xs.length - (i + 1), by omega, rfl, hlt, p'⟩, fun x H' y => ?_⟩
    obtain ⟨e, y⟩ := y
    subst e
    exact hs i x σ _ (y xs q) p
  · have e : i = xs.length := by omega
    subst e
    exact .inl ⟨⟨xs, q, Nat.le_refl _⟩, hd σ H p⟩
theorem for_range {lo : Int} {n : Nat} {g : TG} {tb : TS} {D : Ends} {σ : St} {H : Hp} (Pv : Nat → St → Hp → Prop) (h0 : Pv 0 σ H)
    (hs : ∀ i σ H, i < n → Pv i σ H → g (.int (lo + i)) σ H fun σ2 H2 => tb { D with nx := Pv (i + 1), ct := Pv (i + 1), bk := D.nx } σ2 H2) (hd : ∀ σ H, Pv n σ H → D.nx σ H) :
    ∃ W : Nat → Nat → St → Hp → Prop, (∃ m, W 0 m σ H) ∧ ∀ i m σ H, W i m σ H →
      ((Itr lo n).stop i H ∧ D.nx σ H) ∨ ((Itr lo n).go i H ∧ ∃ N : St → Hp → Prop, (∀ σ' H', N σ' H' → ∃ m', m' < m ∧ W (i + 1) m' σ' H') ∧ ∀ x H', (Itr lo n).yld i H x H' → g x σ H' fun σ2 H2 => tb { D with nx := N, ct := N, bk := D.nx } σ2 H2) := by
  refine ⟨fun i m σ H => m = n - i ∧ i ≤ n ∧ Pv i σ H, ⟨n, by simp, Nat.zero_le _, h0⟩, ?_⟩
  rintro i m σ H ⟨rfl, hi, p⟩
  by_cases hlt : i < n
  · refine .inr ⟨hlt, Pv (i + 1), fun σ' H' p' => ⟨n - (i + 1), by omega, rfl, hlt, p'⟩, fun x H' y => ?_⟩
    obtain ⟨e, y⟩ := y
    subst e y
    exact hs i σ _ hlt p
  · have e : i = n := by omega
    subst e
    exact .inl ⟨Nat.le_refl _, hd σ H p⟩
end L2

namespace L2
open PySem PySem.Spec PyProof.Rows

noncomputable abbrev R2 := V → V → Hp → VK → Prop
noncomputable def OpR (X : Cx) (f : Value → Value → Sem Value) (r : R2) : Prop :=
  ∀ (pins : List (Addr × Obj)) (s : Shared) (σ : St) (H : Hp) (x y : V) (v u : Value) (Q : VK), Inv X pins σ H s → RelV x v → RelV y u → r x y H Q →
    wpAny (model X.prog X.w) X.A (f v u) (EP X pins σ Q) X.xe s
noncomputable def UnR (X : Cx) (f : Value → Sem Value) (r : V → Hp → VK → Prop) : Prop :=
  ∀ (pins : List (Addr × Obj)) (s : Shared) (σ : St) (H : Hp) (x : V) (v : Value) (Q : VK), Inv X pins σ H s → RelV x v → r x H Q →
    wpAny (model X.prog X.w) X.A (f v) (EP X pins σ Q) X.xe s
noncomputable def CallR (X : Cx) (f : Value) (r : List V → Hp → VK → Prop) : Prop :=
  ∀ (pins : List (Addr × Obj)) (s : Shared) (σ : St) (H : Hp) (xs : List V) (us : List Value) (Q : VK), Inv X pins σ H s → Vals xs us → r xs H Q →
    wpAny (model X.prog X.w) X.A (call f us) (EP X pins σ Q) X.xe s
noncomputable def tOp (r : R2) (ta tb : TE) : TE := fun σ H Q => ta σ H fun x H1 => tb σ H1 fun y H2 => r x y H2 Q
noncomputable def tUn (r : V → Hp → VK → Prop) (ta : TE) : TE := fun σ H Q => ta σ H fun x H1 => r x H1 Q
noncomputable def rI (C : Int → Int → Prop) (g : Int → Int → V) : R2 := fun x y H Q => ∃ i j, x = .int i ∧ y = .int j ∧ C i j ∧ Q (g i j) H
noncomputable def rI0 (g : Int → Int → V) : R2 := fun x y H Q => ∃ i j, x = .int i ∧ y = .int j ∧ Q (g i j) H
noncomputable def rU (g : Int → V) : V → Hp → VK → Prop := fun x H Q => ∃ i, x = .int i ∧ Q (g i) H

section
variable {X : Cx} {a b c : Expr} {ta tb tc : TE} {pos : Pos}

theorem binT (ha : PE X a ta) (hb : PE X b tb) {pins : List (Addr × Obj)} {s : Shared} {σ : St} {H : Hp} {R : V → V → Hp → Prop} (I : Inv X pins σ H s)
    (h : ta σ H fun x H1 => tb σ H1 fun y H2 => R x y H2) {Q : Value → Shared → Prop} {f : Value → Value → Sem Value}
    (hf : ∀ v u s2 x y H2, Inv X pins σ H2 s2 → RelV x v → RelV y u → R x y H2 → wpAny (model X.prog X.w) X.A (f v u) Q X.xe s2) :
    wpAny (model X.prog X.w) X.A (eval a X.env) (fun v s₁ => wpAny (model X.prog X.w) X.A (eval b X.env) (fun u s₂ => wpAny (model X.prog X.w) X.A (f v u) Q X.xe s₂) X.xe s₁) X.xe s := by
  refine thn (ha pins s σ H _ I h) fun v s1 ⟨x, H1, I1, r1, q1⟩ => ?_
  refine thn (hb pins s1 σ H1 _ I1 q1) fun u s2 ⟨y, H2, I2, r2, q2⟩ => ?_
  exact hf v u s2 x y H2 I2 r1 r2 q2

theorem pe_op {op : Operator} {r : R2} (ho : OpR X (binaryOp op) r) (ha : PE X a ta) (hb : PE X b tb) : PE X (.BinOp a op b pos) (tOp r ta tb) := by
  intro pins s σ H Q I h
  exact wpAny_BinOp (binT ha hb I h fun v u s2 x y H2 I2 rx ry q => ho pins s2 σ H2 x y v u Q I2 rx ry q)
theorem pe_un {op : UnaryOp} {r : V → Hp → VK → Prop} (ho : UnR X (unaryOp op) r) (ha : PE X a ta) : PE X (.UnaryOp op a pos) (tUn r ta) := by
  intro pins s σ H Q I h
  exact UnaryOp_ (thn (ha pins s σ H _ I h) fun v s1 ⟨x, H1, I1, r1, q1⟩ => ho pins s1 σ H1 x v Q I1 r1 q1)
theorem opI {f : Value → Value → Sem Value} {C : Int → Int → Prop} {g : Int → Int → Int}
    (rule : ∀ (i j : Int) (t u : Tok) (s : Shared) (Q : Value → Shared → Prop) (E : Value → Shared → Prop), C i j → Q (.int (g i j) s.toks) { s with toks := s.toks + 1 } → wpAny (model X.prog X.w) X.A (f (.int i t) (.int j u)) Q E s) :
    OpR X f (rI C fun i j => .int (g i j)) := by
  intro pins s σ H x y v u Q I rx ry h
  obtain ⟨i, j, rfl, rfl, hc, q⟩ := h
  obtain ⟨t, rfl⟩ := rx
  obtain ⟨t', rfl⟩ := ry
  exact rule i j t t' s _ _ hc ⟨.int (g i j), H, I.tok _, ⟨_, rfl⟩, q⟩
theorem opI0 {f : Value → Value → Sem Value} {g : Int → Int → Int}
    (rule : ∀ (i j : Int) (t u : Tok) (s : Shared) (Q : Value → Shared → Prop) (E : Value → Shared → Prop), Q (.int (g i j) s.toks) { s with toks := s.toks + 1 } → wpAny (model X.prog X.w) X.A (f (.int i t) (.int j u)) Q E s) :
    OpR X f (rI0 fun i j => .int (g i j)) := by
  intro pins s σ H x y v u Q I rx ry h
  obtain ⟨i, j, rfl, rfl, q⟩ := h
  obtain ⟨t, rfl⟩ := rx
  obtain ⟨t', rfl⟩ := ry
  exact rule i j t t' s _ _ ⟨.int (g i j), H, I.tok _, ⟨_, rfl⟩, q⟩
theorem opB0 {f : Value → Value → Sem Value} {g : Int → Int → Bool}
    (rule : ∀ (i j : Int) (t u : Tok) (s : Shared) (Q : Value → Shared → Prop) (E : Value → Shared → Prop), Q (.bool (g i j)) s → wpAny (model X.prog X.w) X.A (f (.int i t) (.int j u)) Q E s) :
    OpR X f (rI0 fun i j => .bl (g i j)) := by
  intro pins s σ H x y v u Q I rx ry h
  obtain ⟨i, j, rfl, rfl, q⟩ := h
  obtain ⟨t, rfl⟩ := rx
  obtain ⟨t', rfl⟩ := ry
  exact rule i j t t' s _ _ ⟨.bl (g i j), H, I, rfl, q⟩

noncomputable def CDiv (i j : Int) : Prop := 0 < j ∧ j < 1073741824
noncomputable def CPow (i j : Int) : Prop := 0 ≤ j ∧ j ≤ 1000000 ∧ i.natAbs < 2 ^ 64
noncomputable def CMul (i j : Int) : Prop := (-(2 ^ 64) < i ∧ i < 2 ^ 64) ∨ (-(2 ^ 64) < j ∧ j < 2 ^ 64)
theorem CMul.ok {i j : Int} (h : CMul i j) : IntMulOk i j := by
  rcases h with ⟨h1, h2⟩ | ⟨h1, h2⟩
  · exact .of_left (intBits_le_64 h1 h2)
  · exact .of_right (intBits_le_64 h1 h2)
theorem two_pow_nn (k : Nat) : (0 : Int) ≤ 2 ^ k := by
  rw [two_pow_cast]
  exact Int.natCast_nonneg _

theorem op_add : OpR X (binaryOp .Add) (rI0 fun i j => .int (i + j)) := opI0 fun _ _ _ _ _ _ _ q => add_int q
theorem op_sub : OpR X (binaryOp .Sub) (rI0 fun i j => .int (i - j)) := opI0 fun _ _ _ _ _ _ _ q => sub_int q
theorem op_mul : OpR X (binaryOp .Mult) (rI CMul fun i j => .int (i * j)) := opI fun _ _ _ _ _ _ _ hc q => mul_int q hc.ok
theorem op_fdiv : OpR X (binaryOp .FloorDiv) (rI CDiv fun i j => .int (i / j)) := opI fun i j _ _ _ _ _ hc q => by
  have h1 : (0 : Int) < j := hc.1
  have h2 : j < 1073741824 := hc.2
  exact floordiv_int (by omega) (by rw [Int.fdiv_eq_ediv_of_nonneg i (by omega)]; exact q) (.inl (PyProof.noPylong_small (by omega)))
theorem op_mod : OpR X (binaryOp .Mod) (rI (fun _ j => 0 < j) fun i j => .int (i % j)) := opI fun i j _ _ _ _ _ hc q => by
  have h1 : (0 : Int) < j := hc
  exact mod_int' (by omega) (by rw [Int.fmod_eq_emod_of_nonneg i (by omega)]; exact q)
theorem op_shl : OpR X (binaryOp .LShift) (rI CPow fun i j => .int (i * 2 ^ j.toNat)) := opI fun _ _ _ _ _ _ _ hc q => lshift_int_small hc.1 hc.2.1 hc.2.2 q
theorem op_shr : OpR X (binaryOp .RShift) (rI (fun _ j => 0 ≤ j) fun i j => .int (i / 2 ^ j.toNat)) := opI fun i j _ _ _ _ _ hc q =>
  rshift_int hc (by rw [Int.fdiv_eq_ediv_of_nonneg i (two_pow_nn _)]; exact q)
theorem op_and : OpR X (binaryOp .BitAnd) (rI0 fun i j => .int (Builtin.bitAnd i j)) := opI0 fun _ _ _ _ _ _ _ q => and_int q
theorem unI {f : Value → Sem Value} {g : Int → Int}
    (rule : ∀ (i : Int) (t : Tok) (s : Shared) (Q : Value → Shared → Prop) (E : Value → Shared → Prop), Q (.int (g i) s.toks) { s with toks := s.toks + 1 } → wpAny (model X.prog X.w) X.A (f (.int i t)) Q E s) :
    UnR X f (rU fun i => .int (g i)) := by
  intro pins s σ H x v Q I rx h
  obtain ⟨i, rfl, q⟩ := h
  obtain ⟨t, rfl⟩ := rx
  exact rule i t s _ _ ⟨.int (g i), H, I.tok _, ⟨_, rfl⟩, q⟩
theorem un_neg : UnR X (unaryOp .USub) (rU fun i => .int (-i)) := unI fun _ _ _ _ _ q => neg_int q
end

noncomputable def scal : V → V → Bool
  | .non, .non => true | .non, .int _ => true | .int _, .non => true | .non, .bl _ => true | .bl _, .non => true | .non, .str _ => true | .str _, .non => true
  | .int _, .int _ => true | .bl _, .bl _ => true | .str _, .str _ => true | .byt _, .byt _ => true
  | .int _, .str _ => true | .str _, .int _ => true | .bl _, .str _ => true | .str _, .bl _ => true
  | _, _ => false
noncomputable def rEq : R2 := fun x y H Q => scal x y = true ∧ Q (.bl (decide (x = y))) H
noncomputable def rNe : R2 := fun x y H Q => scal x y = true ∧ Q (.bl (!decide (x = y))) H

theorem dec_int {i j : Int} : decide (V.int i = V.int j) = (i == j) := by
  rw [Bool.eq_iff_iff]
  simp
theorem dec_bl {i j : Bool} : decide (V.bl i = V.bl j) = (i == j) := by
  rw [Bool.eq_iff_iff]
  simp
theorem dec_str {i j : Str} : decide (V.str i = V.str j) = (i == j) := by
  rw [Bool.eq_iff_iff]
  simp
theorem dec_byt {i j : Array UInt8} : decide (V.byt i = V.byt j) = (i.toList == j.toList) := by
  rw [Bool.eq_iff_iff]
  cases i
  cases j
  simp

section
variable {X : Cx} {a b c : Expr} {ta tb tc : TE} {pos : Pos}
theorem fin_bl {pins : List (Addr × Obj)} {σ : St} {H : Hp} {s : Shared} {Q : VK} {k k' : Bool} (I : Inv X pins σ H s) (q : Q (.bl k) H) (e : k = k') : EP X pins σ Q (.bool k') s := by
  subst e
  exact ⟨.bl k, H, I, rfl, q⟩
theorem op_eq : OpR X (compareOp .Eq) rEq := by
  intro pins s σ H x y v u Q I rx ry h
  obtain ⟨hs, q⟩ := h
  cases x with
  | non =>
    cases rx
    cases y with
    | non => cases ry; exact PySem.EqNone.eq_none_none (fin_bl I q (by simp))
    | bl j => cases ry; exact PySem.EqNone.eq_none_bool (fin_bl I q (by simp))
    | int j => obtain ⟨t', rfl⟩ := ry; exact PySem.EqNone.eq_none_int (fin_bl I q (by simp))
    | str j => obtain ⟨t', rfl⟩ := ry; exact PySem.EqNone.eq_none_str (fin_bl I q (by simp))
    | _ => exact absurd (show false = true from hs) Bool.false_ne_true
  | bl i =>
    cases rx
    cases y with
    | non => cases ry; exact PySem.EqNone.eq_bool_none (fin_bl I q (by simp))
    | bl j => cases ry; exact eq_bool (fin_bl I q dec_bl)
    | str j => obtain ⟨t', rfl⟩ := ry; exact PySem.EqMixed.eq_bool_str (fin_bl I q (by simp))
    | _ => exact absurd (show false = true from hs) Bool.false_ne_true
  | int i =>
    obtain ⟨t, rfl⟩ := rx
    cases y with
    | non => cases ry; exact PySem.EqNone.eq_int_none (fin_bl I q (by simp))
    | int j => obtain ⟨t', rfl⟩ := ry; exact eq_int (fin_bl I q dec_int)
    | str j => obtain ⟨t', rfl⟩ := ry; exact PySem.EqMixed.eq_int_str (fin_bl I q (by simp))
    | _ => exact absurd (show false = true from hs) Bool.false_ne_true
  | str i =>
    obtain ⟨t, rfl⟩ := rx
    cases y with
    | non => cases ry; exact PySem.EqNone.eq_str_none (fin_bl I q (by simp))
    | bl j => cases ry; exact PySem.EqMixed.eq_str_bool (fin_bl I q (by simp))
    | int j => obtain ⟨t', rfl⟩ := ry; exact PySem.EqMixed.eq_str_int (fin_bl I q (by simp))
    | str j => obtain ⟨t', rfl⟩ := ry; exact eq_str (fin_bl I q dec_str)
    | _ => exact absurd (show false = true from hs) Bool.false_ne_true
  | byt i =>
    obtain ⟨t, rfl⟩ := rx
    cases y with
    | byt j => obtain ⟨t', rfl⟩ := ry; exact PySem.W.eq_bytes (fin_bl I q dec_byt)
    | _ => exact absurd (show false = true from hs) Bool.false_ne_true
  | _ => cases y <;> exact absurd (show false = true from hs) Bool.false_ne_true
theorem op_ne : OpR X (compareOp .NotEq) rNe := by
  intro pins s σ H x y v u Q I rx ry h
  obtain ⟨hs, q⟩ := h
  cases x with
  | non =>
    cases rx
    cases y with
    | non => cases ry; exact PySem.EqNone.ne_none_none (fin_bl I q (by simp))
    | bl j => cases ry; exact PySem.EqNone.ne_none_bool (fin_bl I q (by simp))
    | int j => obtain ⟨t', rfl⟩ := ry; exact PySem.EqNone.ne_none_int (fin_bl I q (by simp))
    | str j => obtain ⟨t', rfl⟩ := ry; exact PySem.EqNone.ne_none_str (fin_bl I q (by simp))
    | _ => exact absurd (show false = true from hs) Bool.false_ne_true
  | bl i =>
    cases rx
    cases y with
    | non => cases ry; exact PySem.EqNone.ne_bool_none (fin_bl I q (by simp))
    | bl j => cases ry; exact ne_bool (fin_bl I q (congrArg not dec_bl))
    | str j => obtain ⟨t', rfl⟩ := ry; exact PySem.EqMixed.ne_bool_str (fin_bl I q (by simp))
    | _ => exact absurd (show false = true from hs) Bool.false_ne_true
  | int i =>
    obtain ⟨t, rfl⟩ := rx
    cases y with
    | non => cases ry; exact PySem.EqNone.ne_int_none (fin_bl I q (by simp))
    | int j => obtain ⟨t', rfl⟩ := ry; exact ne_int (fin_bl I q (congrArg not dec_int))
    | str j => obtain ⟨t', rfl⟩ := ry; exact PySem.EqMixed.ne_int_str (fin_bl I q (by simp))
    | _ => exact absurd (show false = true from hs) Bool.false_ne_true
  | str i =>
    obtain ⟨t, rfl⟩ := rx
    cases y with
    | non => cases ry; exact PySem.EqNone.ne_str_none (fin_bl I q (by simp))
    | bl j => cases ry; exact PySem.EqMixed.ne_str_bool (fin_bl I q (by simp))
    | int j => obtain ⟨t', rfl⟩ := ry; exact PySem.EqMixed.ne_str_int (fin_bl I q (by simp))
    | str j => obtain ⟨t', rfl⟩ := ry; exact ne_str (fin_bl I q (congrArg not dec_str))
    | _ => exact absurd (show false = true from hs) Bool.false_ne_true
  | byt i =>
    obtain ⟨t, rfl⟩ := rx
    cases y with
    | byt j => obtain ⟨t', rfl⟩ := ry; exact PySem.W.ne_bytes (fin_bl I q (congrArg not dec_byt))
    | _ => exact absurd (show false = true from hs) Bool.false_ne_true
  | _ => cases y <;> exact absurd (show false = true from hs) Bool.false_ne_true

theorem op_lt : OpR X (compareOp .Lt) (rI0 fun i j => .bl (decide (i < j))) := opB0 fun _ _ _ _ _ _ _ q => lt_int q
theorem op_gt : OpR X (compareOp .Gt) (rI0 fun i j => .bl (decide (j < i))) := opB0 fun _ _ _ _ _ _ _ q => gt_int q
theorem op_ge : OpR X (compareOp .GtE) (rI0 fun i j => .bl (decide (j ≤ i))) := opB0 fun _ _ _ _ _ _ _ q => ge_int q
theorem op_in_str : OpR X (compareOp .In) (fun x y H Q => ∃ i j, x = .str i ∧ y = .str j ∧ Q (.bl (!(Builtin.Str.occurrences j i 0 j.length 1).isEmpty)) H) := by
  intro pins s σ H x y v u Q I rx ry h
  obtain ⟨i, j, rfl, rfl, q⟩ := h
  obtain ⟨t, rfl⟩ := rx
  obtain ⟨t', rfl⟩ := ry
  exact in_str (fin_bl I q rfl)

theorem OpR.or {f : Value → Value → Sem Value} {r r' : R2} (h : OpR X f r) (h' : OpR X f r') : OpR X f (fun x y H Q => r x y H Q ∨ r' x y H Q) := by
  intro pins s σ H x y v u Q I rx ry q
  rcases q with q | q
  · exact h pins s σ H x y v u Q I rx ry q
  · exact h' pins s σ H x y v u Q I rx ry q

theorem nomark (b : Expr) {op : CmpOp} (h : op ≠ .In := by decide) (h2 : op ≠ .NotIn := by decide) : behindInMarks op b = false := by
  have e1 : (op == CmpOp.In) = false := by cases op <;> first | rfl | exact absurd rfl h
  have e2 : (op == CmpOp.NotIn) = false := by cases op <;> first | rfl | exact absurd rfl h2
  cases b <;> simp [behindInMarks, e1, e2]
theorem pe_cmpR {op : CmpOp} {r : R2} (ho : OpR X (compareOp op) r) (ha : PE X a ta) (hb : PE X b tb) (hm : behindInMarks op b = false) : PE X (.Compare a [op] [b] pos) (tOp r ta tb) := by
  intro pins s σ H Q I h
  exact wpAny_Compare1 (binT ha hb I h fun v u s2 x y H2 I2 rx ry q => ho pins s2 σ H2 x y v u Q I2 rx ry q) hm
noncomputable def tTest (t : TE) : TT := fun σ H Q => t σ H fun x H' => ∃ k, x = .bl k ∧ Q k H'
theorem pt_cmpR {op : CmpOp} {r : R2} (ho : OpR X (compareOp op) r) (ha : PE X a ta) (hb : PE X b tb) (hm : behindInMarks op b = false) : PT X (.Compare a [op] [b] pos) (tTest (tOp r ta tb)) := by
  intro pins s σ H Q I h
  refine wpAny_isTrue_Compare1 (thn (ha pins s σ H _ I h) fun v s1 ⟨x, H1, I1, r1, q1⟩ => thn (hb pins s1 σ H1 _ I1 q1) fun u s2 ⟨y, H2, I2, r2, q2⟩ =>
    thn (ho pins s2 σ H2 x y v u _ I2 r1 r2 q2) fun c s3 ⟨z, H3, I3, r3, k, e, q3⟩ => ?_) hm
  subst e
  cases r3
  exact wpAny_truthy_bool ⟨H3, I3, q3⟩
theorem line63 : (sizeLine : Nat) < 2 ^ 63 := by rw [sizeLine_eq]; decide
theorem op_add_str : OpR X (binaryOp .Add) (fun x y H Q => ∃ i j, x = .str i ∧ y = .str j ∧ i.length + j.length ≤ sizeLine ∧ Q (.str (i ++ j)) H) := by
  intro pins s σ H x y v u Q I rx ry h
  obtain ⟨i, j, rfl, rfl, hz, q⟩ := h
  obtain ⟨t, rfl⟩ := rx
  obtain ⟨t', rfl⟩ := ry
  exact add_str (fun t' tk => ⟨.str (i ++ j), H, I.tok _, ⟨_, rfl⟩, q⟩) hz
theorem vals1 {x : V} {us : List Value} (r : Vals [x] us) : ∃ u, us = [u] ∧ RelV x u := by
  cases r with
  | cons r1 r2 => cases r2; exact ⟨_, rfl, r1⟩
theorem vals2 {x y : V} {us : List Value} (r : Vals [x, y] us) : ∃ u w', us = [u, w'] ∧ RelV x u ∧ RelV y w' := by
  cases r with
  | cons r1 r2 =>
    cases r2 with
    | cons r3 r4 => cases r4; exact ⟨_, _, rfl, r1, r3⟩
end
end L2

namespace L2
open PySem PySem.Spec PyProof.Rows

structure ObjM (h : Heap) (x dx C : Addr) (mA : Str → Option Value) : Prop where
  obj : h.get? x = some (PySem.W.instObj C dx)
  ns : h.Ns1 dx mA
  ne : dx ≠ x

theorem lookIn_ns {h : Heap} {dx : Addr} {mA : Str → Option Value} (n : h.Ns1 dx mA) : ∃ od, h.get? dx = some od ∧ ∀ name, PySem.W.lookIn name od = some (mA name) := by
  obtain ⟨o, es, ep, ho, hd, hk, _, hm⟩ := n
  refine ⟨o, ho, fun name => ?_⟩
  have e := hm name
  unfold nsFind findBy at e
  rw [← Array.find?_toList] at e
  unfold PySem.W.lookIn
  rw [hd]
  dsimp only
  split
  · rename_i y q
    rw [q] at e
    exact congrArg some e
  · rename_i q
    rw [q] at e
    have a : es.toList.any (·.refKey) = false := by
      rw [List.any_eq_false]
      intro y hy
      obtain ⟨z, t, hkey⟩ := hk y (Array.mem_toList_iff.mp hy)
      simp [DictEntry.refKey, hkey]
    have a' : ¬ es.toList.any (·.refKey) = true := by rw [a]; exact Bool.false_ne_true
    rw [if_neg a']
    exact congrArg some e

theorem ObjM.look {h : Heap} {x dx C : Addr} {mA : Str → Option Value} (I : ObjM h x dx C mA) : ∃ od, PySem.W.InstAt h x (PySem.W.instObj C dx) C (some od) ∧ ∀ name, PySem.W.lookIn name od = some (mA name) :=
  let ⟨od, ho, hl⟩ := lookIn_ns I.ns
  ⟨od, ⟨I.obj, rfl, rfl, ho⟩, hl⟩

section
variable {prog : Program} {w : World} {A : Around} {E : Value → Shared → Prop} {s : Shared} {K : PySem.W.Frag} {x dx C f : Addr} {mA : Str → Option Value} {name : Str} {v : Value}

theorem get_map {expr : Bool} {Q : Value → Shared → Prop} (X : K.In s.heap) (I : ObjM s.heap x dx C mA) (hg : PySem.W.plainGet K C name = true) (hh : PySem.W.hasDictIn K C = true)
    (ha : PySem.W.findIn K (.ref C) name = some none) (hv : mA name = some v) (hv' : PySem.W.handedIn v = true) (h : Q v { s with toks := s.toks + 1 }) :
    wpAny (model prog w) A (getAttr (.ref x) name expr) Q E s := by
  obtain ⟨od, J, hl⟩ := I.look
  exact PySem.W.get_value X J (PySem.W.plainGet_of hg).1 (PySem.W.findObj_own hh ha rfl (by rw [hl, hv])) hv' h

theorem get_meth {pl : Sem Bool} {Q : Value × List Value → Shared → Prop} (X : K.In s.heap) (I : ObjM s.heap x dx C mA) (hg : PySem.W.plainGet K C name = true)
    (hf : PySem.W.findIn K (.ref C) name = some (some (.ref f))) (ht : PySem.W.isFn K (.ref f) = true) (hv : mA name = none) (h : Q (.ref f, [.ref x]) s) :
    wpAny (model prog w) A (getMethod (.ref x) name pl) Q E s := by
  obtain ⟨od, J, hl⟩ := I.look
  exact PySem.W.method_fn X J (PySem.W.plainGet_of hg).1 (PySem.W.plainGet_of hg).2 hf (beq_iff_eq.mp ht) (by show (PySem.W.lookIn name od).map (·.isSome) = some false; rw [hl, hv]; rfl) h

theorem set_map {ns : List Str} {Q : Unit → Shared → Prop} (X : K.In s.heap) (I : ObjM s.heap x dx C mA)
    (hs : PySem.W.findIn K (.ref C) "__setattr__" = some (some (.builtin "object.__setattr__"))) (hp : PySem.W.plainOver K C = true) (ht : PySem.W.takerIn K C name = some none) (hh : PySem.W.hasDictIn K C = true)
    (hw : PySem.Within mA ns) (hsz : ns.length ≤ sizeLine)
    (h : ∀ h', ObjM h' x dx C (fun y => if y = name then some v else mA y) → Heap.SameBut dx s.heap h' → Q () { s with heap := h', toks := s.toks + 2 }) :
    wpAny (model prog w) A (setAttr (.ref x) name v) Q E s := by
  obtain ⟨od, J, hl⟩ := I.look
  refine PySem.W.set_plain X J hs (PySem.W.osa_open (s := { s with toks := s.toks + 1 }) (r := none) X J hp ht fun b => ?_)
  obtain ⟨cd, hc, hd'⟩ := PySem.W.any_some hh
  have hx : s.heap.get? x = some ⟨.ref C, some dx, .plain, #[]⟩ := I.obj
  refine wpAny_bind (wpAny_pure (wpAny_bind (wpAny_bind (wpAny_loadPart hx (wpAny_bind (PySem.W.Looks.here (s := { s with toks := s.toks + 1 }) (PySem.W.looks_clsIn X hc) ?_))))))
  rw [hd']
  refine wpAny_pure (a := some dx) (wpAny_bind (wpAny_pure (wpAny_bind ?_)))
  refine wpAny_nsSet1 (s := { s with toks := s.toks + 1 }) I.ns fun h' hn2 hs2 => ?_
  obtain ⟨oD, esD, epD, hoD, hdD, hcD⟩ := hn2.count (PySem.Within.cons name v hw)
  refine wpAny_bind (wpAny_lookBehind hoD (by rw [hdD]; exact pastItsLine_dict (Nat.le_trans hcD (by rw [List.length_cons]; omega))) ?_)
  exact wpAny_pure (h _ ⟨(hs2.2 _ (Ne.symm I.ne)).trans I.obj, hn2, I.ne⟩ hs2)

theorem make_map {R : Result → Shared → Prop} {vs : List Value} {kw : List (Str × Value)} (X : K.In s.heap) (hm : PySem.W.makesIn K C = true)
    (hi : PySem.W.findIn K (.ref C) "__init__" = some (some (.ref f))) (hf : PySem.W.typeIn K (.ref f) = some (.type "function"))
    (h : codeAny (model prog w) (A.under (.builtin "type.__call__" ⟨.ref C :: vs, kw⟩)) (.call (.ref f) ⟨.ref (s.heap.objs.size + 1) :: vs, kw⟩) (PySem.W.InitBack (s.heap.objs.size + 1) R)
      { s with heap := (s.heap.push PySem.W.emptyDict).push (PySem.W.instObj C s.heap.objs.size) }) :
    codeAny (model prog w) A (.call (.ref C) ⟨vs, kw⟩) R s := by
  obtain ⟨hh, g, d, t, os⟩ := s
  exact PySem.W.make_core (PySem.W.makes_of X hm) (PySem.W.looks_findIn X hi) (fun self => PySem.W.bind_fn X self hf) (.inl rfl) h
end

noncomputable def putF (f : Str) (v : V) : List (Str × V) → List (Str × V)
  | [] => [(f, v)]
  | (g, x) :: r => if g = f then (g, v) :: r else (g, x) :: putF f v r
theorem lookup_putF (f g : Str) (v : V) : ∀ fs : List (Str × V), (putF f v fs).lookup g = if g = f then some v else fs.lookup g
  | [] => by
    show List.lookup g [(f, v)] = _
    by_cases h : g = f
    · have hb : (g == f) = true := beq_iff_eq.mpr h
      simp only [List.lookup, hb, if_pos h]
    · have hb : (g == f) = false := beq_eq_false_iff_ne.mpr h
      simp only [List.lookup, hb, if_neg h]
  | (k, x) :: r => by
    have ih := lookup_putF f g v r
    rw [show putF f v ((k, x) :: r) = (if k = f then (k, v) :: r else (k, x) :: putF f v r) from rfl]
    by_cases hk : k = f
    · rw [if_pos hk]
      by_cases h : g = k
      · have hb : (g == k) = true := beq_iff_eq.mpr h
        simp only [List.lookup, hb, if_pos (h.trans hk)]
      · have hb : (g == k) = false := beq_eq_false_iff_ne.mpr h
        simp only [List.lookup, hb, if_neg (fun e : g = f => h (e.trans hk.symm))]
    · rw [if_neg hk]
      by_cases h : g = k
      · have hb : (g == k) = true := beq_iff_eq.mpr h
        simp only [List.lookup, hb, if_neg (fun e : g = f => hk (h.symm.trans e))]
      · have hb : (g == k) = false := beq_eq_false_iff_ne.mpr h
        simp only [List.lookup, hb]
        exact ih
theorem keys_putF (f : Str) (v : V) : ∀ fs : List (Str × V), f ∈ (putF f v fs).map (·.1) ∧ ∀ g, g ∈ fs.map (·.1) → g ∈ (putF f v fs).map (·.1)
  | [] => ⟨by simp [putF], fun g h => by simp at h⟩
  | (k, x) :: r => by
    obtain ⟨i1, i2⟩ := keys_putF f v r
    rw [show putF f v ((k, x) :: r) = (if k = f then (k, v) :: r else (k, x) :: putF f v r) from rfl]
    by_cases hk : k = f
    · rw [if_pos hk]
      subst hk
      exact ⟨by simp, fun g h => by simpa using h⟩
    · rw [if_neg hk]
      refine ⟨?_, fun g h => ?_⟩
      · rw [List.map_cons]
        exact List.mem_cons_of_mem _ i1
      · rw [List.map_cons] at h ⊢
        rcases List.mem_cons.mp h with e | e
        · exact List.mem_cons.mpr (.inl e)
        · exact List.mem_cons_of_mem _ (i2 g e)
theorem length_putF (f : Str) (v : V) : ∀ fs : List (Str × V), (putF f v fs).length ≤ fs.length + 1
  | [] => by simp [putF]
  | (k, x) :: r => by
    have ih := length_putF f v r
    rw [show putF f v ((k, x) :: r) = (if k = f then (k, v) :: r else (k, x) :: putF f v r) from rfl]
    by_cases hk : k = f
    · rw [if_pos hk, List.length_cons, List.length_cons]; omega
    · rw [if_neg hk, List.length_cons, List.length_cons]; omega

theorem RelO.some_of {v : V} {o : Option Value} (r : RelO (some v) o) : ∃ u, o = some u ∧ RelV v u := by
  cases o with
  | none => exact (show False from r).elim
  | some u => exact ⟨u, rfl, r⟩
theorem RelO.none_of {o : Option Value} (r : RelO none o) : o = none := by
  cases o with
  | none => rfl
  | some u => exact (show False from r).elim
theorem handed_of {v : V} {u : Value} (r : RelV v u) : PySem.W.handedIn u = true := by
  cases v with
  | non => cases (show u = Value.none from r); rfl
  | bl b => cases (show u = Value.bool b from r); rfl
  | int i => obtain ⟨t, e⟩ := (show ∃ t, u = Value.int i t from r); cases e; rfl
  | str x => obtain ⟨t, e⟩ := (show ∃ t, u = Value.str x t from r); cases e; rfl
  | byt b => obtain ⟨t, e⟩ := (show ∃ t, u = Value.bytes b t from r); cases e; rfl
  | flt b => obtain ⟨t, e⟩ := (show ∃ t, u = Value.float b t from r); cases e; rfl
  | ref a => cases (show u = Value.ref a from r); rfl
  | ty n => cases (show u = Value.type n from r); rfl

section
variable {P : Program} {w : World} {H H' : Hp} {h h' : Heap} {a C dx : Addr} {fs fs' : List (Str × V)}
theorem ins_get (hok : HOk P w H h) (e : H a = some (.ins C dx fs)) : ∃ mA, ObjM h a dx C mA ∧ (∀ f, RelO (fs.lookup f) (mA f)) ∧ PySem.Within mA (fs.map (·.1)) ∧ fs.length ≤ 1000 ∧ H dx = some (.own a) := by
  obtain ⟨d, z, ne, ob, mA, n, r, q⟩ := (show ObjOk P w H h a (.ins C dx fs) from hok a _ e)
  exact ⟨mA, ⟨ob, n, ne⟩, r, q, z, d⟩
end

structure Cls (K : PySem.W.Frag) (C : Addr) : Prop where
  pg : PySem.W.plainGet K C Str.empty = true
  hd : PySem.W.hasDictIn K C = true
  po : PySem.W.plainOver K C = true
  sa : PySem.W.findIn K (.ref C) "__setattr__" = some (some (.builtin "object.__setattr__"))
theorem Cls.get {K : PySem.W.Frag} {C : Addr} (c : Cls K C) (f : Str) : PySem.W.plainGet K C f = true := c.pg
noncomputable def NoAttr (K : PySem.W.Frag) (C : Addr) (f : Str) : Prop := PySem.W.findIn K (.ref C) f = some none
theorem NoAttr.taker {K : PySem.W.Frag} {C : Addr} {f : Str} (n : NoAttr K C f) : PySem.W.takerIn K C f = some none := by
  unfold PySem.W.takerIn
  rw [show PySem.W.findIn K (.ref C) f = some none from n]
  rfl
structure Meth (K : PySem.W.Frag) (C : Addr) (m : Str) (f : Addr) : Prop where
  at_ : PySem.W.findIn K (.ref C) m = some (some (.ref f))
  fn : PySem.W.isFn K (.ref f) = true
  kp : PySem.W.keepIn K (.ref f) = true

section
variable {X : Cx} {pins : List (Addr × Obj)} {σ : St} {H : Hp} {s : Shared} {a C dx : Addr} {fs : List (Str × V)} {f : Str} {v : V} {A : Around} {E : Value → Shared → Prop}

theorem getattr_ok {b : Bool} {Q : Value → Shared → Prop} (I : Inv X pins σ H s) (e : H a = some (.ins C dx fs)) (c : Cls X.K C) (n : NoAttr X.K C f) (l : fs.lookup f = some v)
    (h : ∀ u s', Inv X pins σ H s' → RelV v u → Q u s') : wpAny (model X.prog X.w) A (getAttr (.ref a) f b) Q E s := by
  obtain ⟨mA, O, r, _, _, _⟩ := ins_get I.hok e
  obtain ⟨u, hu, ru⟩ := RelO.some_of (v := v) (o := mA f) (by rw [← l]; exact r f)
  exact get_map I.kIn O (c.get f) c.hd n hu (handed_of ru) (h u _ (I.tok _) ru)

theorem getmeth_ok {m : Str} {g : Addr} {pl : Sem Bool} {Q : Value × List Value → Shared → Prop} (I : Inv X pins σ H s) (e : H a = some (.ins C dx fs)) (c : Cls X.K C) (k : Meth X.K C m g) (l : fs.lookup m = none)
    (h : Q (.ref g, [.ref a]) s) : wpAny (model X.prog X.w) A (getMethod (.ref a) m pl) Q E s := by
  obtain ⟨mA, O, r, _, _, _⟩ := ins_get I.hok e
  have hn : mA m = none := RelO.none_of (by rw [← l]; exact r m)
  exact get_meth I.kIn O (c.get m) k.at_ k.fn hn h

theorem setattr_ok {y : V} {u : Value} {Q : Unit → Shared → Prop} (I : Inv X pins σ H s) (e : H a = some (.ins C dx fs)) (c : Cls X.K C) (n : NoAttr X.K C f) (hl : fs.length < 1000) (ry : RelV y u)
    (h : ∀ s', Inv X pins σ (upd H a (.ins C dx (putF f y fs))) s' → Q () s') : wpAny (model X.prog X.w) A (setAttr (.ref a) f u) Q E s := by
  obtain ⟨mA, O, r, wi, _, ho⟩ := ins_get I.hok e
  have hz : (fs.map (·.1)).length ≤ sizeLine := by rw [List.length_map, sizeLine_eq]; omega
  refine set_map I.kIn O c.sa c.po n.taker c.hd wi hz fun h' O' sb => h _ ?_
  have hd : ∃ o, h'.get? dx = some o := let ⟨o, _, _, e', _⟩ := O'.ns; ⟨o, e'⟩
  refine I.write (x := a) (e := dx) (by rw [e]; exact True.intro) (.inr ho) (fun b q hb z => (sb.2 b hb).trans z) hd ?_
  refine ⟨by rw [upd_ne O.ne]; exact ho, ?_, O.ne, O'.obj, _, O'.ns, fun g => ?_, fun g hg => ?_⟩
  · have := length_putF f y fs; omega
  · show RelO ((putF f y fs).lookup g) (if g = f then some u else mA g)
    rw [lookup_putF]
    by_cases q : g = f
    · rw [if_pos q, if_pos q]; exact ry
    · rw [if_neg q, if_neg q]; exact r g
  · by_cases q : g = f
    · rw [q]; exact (keys_putF f y fs).1
    · refine (keys_putF f y fs).2 g (wi g fun z => hg ?_)
      show (if g = f then some u else mA g) = none
      rw [if_neg q]; exact z

theorem Inv.made (I : Inv X pins σ H s) : Inv X pins σ (upd (upd H s.heap.objs.size (.own (s.heap.objs.size + 1))) (s.heap.objs.size + 1) (.ins C s.heap.objs.size []))
    { s with heap := (s.heap.push PySem.W.emptyDict).push (PySem.W.instObj C s.heap.objs.size) } := by
  have e1 : (s.heap.push PySem.W.emptyDict).get? s.heap.objs.size = some PySem.W.emptyDict := Heap.get?_push_size s.heap rfl
  have e2 : ((s.heap.push PySem.W.emptyDict).push (PySem.W.instObj C s.heap.objs.size)).get? (s.heap.objs.size + 1) = some (PySem.W.instObj C s.heap.objs.size) := by
    have := Heap.get?_push_size (s.heap.push PySem.W.emptyDict) (o := PySem.W.instObj C s.heap.objs.size) rfl
    rwa [Heap.size_push] at this
  have e3 : (s.heap.push PySem.W.emptyDict).Ns s.heap.objs.size (fun _ => none) := ⟨PySem.W.emptyDict, #[], _, e1, rfl, (fun e he => absurd he (by simp)), fun _ => rfl⟩
  have I1 := I.laid (a := s.heap.objs.size) (o := .own (s.heap.objs.size + 1)) (h' := s.heap.push PySem.W.emptyDict) (t' := s.toks) (fun b u q => Heap.get?_push_of_some _ q) (Nat.le_refl _) ⟨_, e1⟩
  refine I1.laid (a := s.heap.objs.size + 1) (o := .ins C s.heap.objs.size []) (t' := s.toks) (fun b u q => Heap.get?_push_of_some _ q) (Nat.le_of_eq (Heap.size_push _ _)) ?_
  have ne : s.heap.objs.size ≠ s.heap.objs.size + 1 := Nat.ne_of_lt (Nat.lt_succ_self _)
  refine ⟨by rw [upd_ne ne, upd_same], Nat.zero_le _, ne, e2, fun _ => none, (Heap.Ns1.of_empty e3).at fun o q => Heap.get?_push_of_some _ q, fun _ => True.intro, fun y hy => absurd rfl hy⟩

theorem attr_of {prog : Program} {w : World} {env : Env} {e : Expr} {f : Str} {pos : Pos} {s : Shared} {Q : Value → Shared → Prop} (hb : attributeBase e f env (eval e env) = eval e env)
    (h : wpAny (model prog w) A (eval e env) (fun o s₁ => wpAny (model prog w) A (getAttr o f true) Q E s₁) E s) : wpAny (model prog w) A (eval (.Attribute e f pos) env) Q E s :=
  Attribute_any_ h (by rw [arm_eval_Attribute, hb])
end

noncomputable def tFld (K : PySem.W.Frag) (ta : TE) (f : Str) : TE := fun σ H Q => ta σ H fun x H1 => ∃ a C dx fs v, x = .ref a ∧ H1 a = some (.ins C dx fs) ∧ Cls K C ∧ NoAttr K C f ∧ fs.lookup f = some v ∧ Q v H1
noncomputable def sFld (K : PySem.W.Frag) (ta tv : TE) (f : Str) : TS := fun D σ H => tv σ H fun y H1 => ta σ H1 fun x H2 => ∃ a C dx fs, x = .ref a ∧ H2 a = some (.ins C dx fs) ∧ Cls K C ∧ NoAttr K C f ∧ fs.length < 1000 ∧
  D.nx σ (upd H2 a (.ins C dx (putF f y fs)))
section
variable {X : Cx} {o e value : Expr} {f : Str} {pos pos' tpos : Pos} {ta tv : TE}
theorem pe_fld (he : PE X e ta) (hb : attributeBase e f X.env (eval e X.env) = eval e X.env) : PE X (.Attribute e f pos) (tFld X.K ta f) := by
  intro pins s σ H Q I h
  refine attr_of hb (thn (he pins s σ H _ I h) fun u s1 hz => ?_)
  obtain ⟨x, H1, I1, rx, a, C, dx, fs, v, ex, ea, c, n, l, q⟩ := hz
  subst ex
  obtain rfl : u = Value.ref a := rx
  exact getattr_ok I1 ea c n l fun u' s2 I2 ru => ⟨v, H1, I2, ru, q⟩
theorem ps_fld (ha : PE X o ta) (hv : PE X value tv) (hs : swapsWith value (some (.Attribute o f pos')) pos.line X.env = pure false) : PS X (.Assign [.Attribute o f pos'] value pos) (sFld X.K ta tv f) := by
  intro pins s σ H D I h
  refine plainObj_wpAny_Assign_Attribute (thn (hv pins s σ H _ I h) fun u s1 ⟨y, H1, I1, ry, q⟩ => thn (ha pins s1 σ H1 _ I1 q) fun ov s2 hz => ?_) hs
  obtain ⟨x, H2, I2, rx, a, C, dx, fs, ex, ea, c, n, l, q2⟩ := hz
  subst ex
  obtain rfl : ov = Value.ref a := rx
  exact setattr_ok I2 ea c n l ry fun s3 I3 => ⟨σ, _, I3, q2⟩
end

section
variable {X : Cx} {pins : List (Addr × Obj)} {σ : St} {H : Hp} {s : Shared} {A : Around} {E : Value → Shared → Prop} {Q : Value → Shared → Prop} {c : Value} {b : Bool}
inductive TyOf (K : PySem.W.Frag) (H : Hp) : V → Value → Prop where
  | non : TyOf K H .non (.type "NoneType")
  | bl (x : Bool) : TyOf K H (.bl x) (.type "bool")
  | int (i : Int) : TyOf K H (.int i) (.type "int")
  | str (x : Str) : TyOf K H (.str x) (.type "str")
  | flt (x : UInt64) : TyOf K H (.flt x) (.type "float")
  | lst {a : Addr} {xs : List V} (e : H a = some (.lst xs)) : TyOf K H (.ref a) (.type "list")
  | frz {a : Addr} {o : Obj} {xs : List V} (e : H a = some (.frz o (.lst xs))) : TyOf K H (.ref a) (.type "list")
  | tup {a : Addr} {xs : List V} (e : H a = some (.tup xs)) : TyOf K H (.ref a) (.type "tuple")
  | dK {a : Addr} {kvs : List (Key × V)} (e : H a = some (.dK kvs)) : TyOf K H (.ref a) (.type "dict")
  | dT {a : Addr} {kvs : List (List Key × V)} (e : H a = some (.dT kvs)) : TyOf K H (.ref a) (.type "dict")
  | ins {a C dx : Addr} {fs : List (Str × V)} (e : H a = some (.ins C dx fs)) (cl : Cls K C) (ha : PySem.W.findIn K (.ref C) "__class__" = some (some (.builtin "object.__class__")))
      (hn : PySem.W.specialIn K (.builtin "object.__class__") "__get__" = some (some (.builtin "getset_descriptor.__get__"))) (htk : PySem.W.takesIn K (.builtin "object.__class__") = some true)
      (hm : PySem.W.mroIn K C (.type "object") = some true) : TyOf K H (.ref a) (.ref C)
theorem isinst_ok {x : V} {u t : Value} (I : Inv X pins σ H s) (rx : RelV x u) (ty : TyOf X.K H x t) (e : PySem.W.kitOne X.K t c = some b) (h : ∀ tk, Q (.bool b) { s with toks := tk }) :
    wpAny (model X.prog X.w) A (call (.builtin "isinstance") [u, c]) Q E s := by
  cases ty with
  | non => cases (show u = Value.none from rx); exact PySem.W.kia_one PySem.W.kitx_none I.kIn True.intro e (fun z => nomatch z) h
  | bl y => cases (show u = Value.bool y from rx); exact PySem.W.kia_one PySem.W.kitx_bool I.kIn True.intro e (fun z => nomatch z) h
  | int i => obtain ⟨t, q⟩ := (show ∃ t, u = Value.int i t from rx); cases q; exact PySem.W.kia_one PySem.W.kitx_int I.kIn True.intro e (fun z => nomatch z) h
  | str y => obtain ⟨t, q⟩ := (show ∃ t, u = Value.str y t from rx); cases q; exact PySem.W.kia_one PySem.W.kitx_str I.kIn True.intro e (fun z => nomatch z) h
  | flt y => obtain ⟨t, q⟩ := (show ∃ t, u = Value.float y t from rx); cases q; exact PySem.W.kia_one PySem.W.kitx_float I.kIn True.intro e (fun z => nomatch z) h
  | @lst a xs ea =>
    cases (show u = Value.ref a from rx)
    obtain ⟨_, _, n, _, h1⟩ := (show ObjOk X.prog X.w H s.heap a (.lst xs) from I.hok a _ ea)
    exact PySem.W.kia_one PySem.W.kitx_list I.kIn ⟨_, h1, rfl⟩ e (fun z => nomatch z) h
  | @frz a ob xs ea =>
    cases (show u = Value.ref a from rx)
    obtain ⟨_, _, _, n, _, h1⟩ := (show ObjOk X.prog X.w H s.heap a (.frz ob (.lst xs)) from I.hok a _ ea)
    exact PySem.W.kia_one PySem.W.kitx_list I.kIn ⟨_, h1, rfl⟩ e (fun z => nomatch z) h
  | @tup a xs ea =>
    cases (show u = Value.ref a from rx)
    obtain ⟨_, _, _, p⟩ := (show ObjOk X.prog X.w H s.heap a (.tup xs) from I.hok a _ ea)
    obtain ⟨o, h1, h2, _⟩ := p
    exact PySem.W.kia_one PySem.W.kitx_tuple I.kIn ⟨o, h1, h2⟩ e (fun z => nomatch z) h
  | @dK a kvs ea =>
    cases (show u = Value.ref a from rx)
    obtain ⟨_, _, vs, _, p⟩ := (show ObjOk X.prog X.w H s.heap a (.dK kvs) from I.hok a _ ea)
    obtain ⟨o, es, ep, h1, h2, _⟩ := p
    exact PySem.W.kia_one PySem.W.kitx_dict I.kIn ⟨o, h1, h2.1⟩ e (fun z => nomatch z) h
  | @dT a kvs ea =>
    cases (show u = Value.ref a from rx)
    obtain ⟨_, _, xs, _, o, es, ep, h1, h2, _⟩ := (show ObjOk X.prog X.w H s.heap a (.dT kvs) from I.hok a _ ea)
    exact PySem.W.kia_one PySem.W.kitx_dict I.kIn ⟨o, h1, h2.1⟩ e (fun z => nomatch z) h
  | @ins a C dx fs ea cl ha hn htk hm =>
    cases (show u = Value.ref a from rx)
    obtain ⟨mA, O, _⟩ := ins_get I.hok ea
    obtain ⟨od, J, _⟩ := O.look
    exact PySem.W.kia_one (PySem.W.kitx_own (cl.get _) cl.hd ha hn htk hm) I.kIn J e (fun z => nomatch z) h
end
end L2

namespace L2
open PySem PySem.Spec PyProof.Rows

structure Room (k : Nat) (A : Around) : Prop where
  hd : A.handled = none
  dp : A.depth + 3 * k + 5 < recursionLimit
  un : A.units + 16 * k + 200 < cLine
theorem Room.mono {j k : Nat} {A : Around} (r : Room k A) (h : j ≤ k) : Room j A := ⟨r.hd, by have := r.dp; omega, by have := r.un; omega⟩
theorem Room.deeper {k : Nat} {A : Around} (r : Room (k + 1) A) (env : Env) : Room k (A.deeper env) :=
  ⟨r.hd, by have := r.dp; show A.depth + 1 + 3 * k + 5 < _; omega, by have := r.un; show A.units + 3 + 16 * k + 200 < _; omega⟩
theorem Room.in1 {k : Nat} {A : Around} (r : Room (k + 1) A) : Room k A.in1 :=
  ⟨r.hd, by have := r.dp; show A.depth + 3 * k + 5 < _; omega, by have := r.un; show A.units + 1 + 16 * k + 200 < _; omega⟩
theorem make_depth {A : Around} {C : Addr} {us : List Value} {kw : List (Str × Value)} : (A.under (.builtin "type.__call__" ⟨.ref C :: us, kw⟩)).depth = A.depth + 1 := by
  first | rfl | simp [Around.under, Code.weight, Code.isCreation, Code.isGuard, Code.isCaller, Code.frames, Code.isFrame, guardIds]
theorem make_units {A : Around} {C : Addr} {us : List Value} {kw : List (Str × Value)} : (A.under (.builtin "type.__call__" ⟨.ref C :: us, kw⟩)).units = A.units + 1 := by
  first | rfl | simp [Around.under, Code.cUnits, Code.frames, Code.isFrame]
theorem Room.make {k : Nat} {A : Around} (r : Room (k + 1) A) (C : Addr) (us : List Value) (kw : List (Str × Value)) : Room k (A.under (.builtin "type.__call__" ⟨.ref C :: us, kw⟩)) :=
  ⟨r.hd, by have := r.dp; rw [make_depth]; omega, by have := r.un; rw [make_units]; omega⟩
theorem Room.depth {k : Nat} {A : Around} (r : Room k A) : A.depth < recursionLimit := by have := r.dp; omega
theorem Room.units {k : Nat} {A : Around} (r : Room k A) : A.units + 64 < cLine := by have := r.un; omega
noncomputable def tNil : TA := fun _ H Q => Q [] H
noncomputable def tCons (ta : TE) (tr : TA) : TA := fun σ H Q => ta σ H fun x H1 => tr σ H1 fun xs H2 => Q (x :: xs) H2
section
variable {X : Cx} {e : Expr} {es : List Expr} {te : TE} {t : TA} {pos : Pos}
theorem pa_nil : PA X [] tNil := fun _ _ _ _ H Q I h => Calls.spliced_nil ⟨[], H, I, .nil, h⟩
theorem pa_cons (ha : PE X e te) (hr : PA X es t) (hs : starEach (e :: es) X.env = (false, eval e X.env) :: starEach es X.env := by rfl) : PA X (e :: es) (tCons te t) := by
  intro pos pins s σ H Q I h
  rw [hs]
  show wpAny _ _ (spliced ((false, eval e X.env) :: backTo pos (starEach es X.env))) _ _ s
  refine Calls.spliced_cons (thn (ha pins s σ H _ I h) fun u s1 ⟨x, H1, I1, r1, q1⟩ => ?_)
  exact thn (hr pos pins s1 σ H1 _ I1 q1) fun us s2 ⟨xs, H2, I2, r2, q2⟩ => ⟨x :: xs, H2, I2, .cons r1 r2, q2⟩

noncomputable def tTup (t : TA) : TE := fun σ H Q => t σ H fun xs H1 => xs.length ≤ sizeLine ∧ ∀ p, H1 p = none → Q (.ref p) (upd H1 p (.tup xs))
noncomputable def tLst (t : TA) : TE := fun σ H Q => t σ H fun xs H1 => xs.length ≤ sizeLine ∧ ∀ p, H1 p = none → Q (.ref p) (upd H1 p (.lst xs))
theorem pe_tup {x1} (h : PA X es t) : PE X (.Tuple es x1 pos) (tTup t) := by
  intro pins s σ H Q I hq
  refine wpAny_Tuple_spliced (thn (h pos pins s σ H _ I hq) fun us s1 ⟨xs, H1, I1, r, z, q⟩ => ⟨by rw [← r.length]; exact z, ?_⟩)
  have hf : H1 s1.heap.objs.size = none := I1.hok.fresh (Nat.le_refl _)
  refine ⟨.ref s1.heap.objs.size, upd H1 s1.heap.objs.size (.tup xs), I1.laid (t' := s1.toks) (fun b u e => Heap.get?_push_of_some _ e) (Nat.le_refl _) ?_, rfl, q _ hf⟩
  exact ⟨z, us, r, ⟨_, Heap.get?_push_size _ rfl, rfl, _, rfl⟩⟩
theorem pe_lst (h : PA X es t) : PE X (.List es pos) (tLst t) := by
  intro pins s σ H Q I hq
  refine wpAny_List_spliced (thn (h pos pins s σ H _ I hq) fun us s1 ⟨xs, H1, I1, r, z, q⟩ => ⟨by rw [← r.length]; exact z, ?_⟩)
  have hf : H1 s1.heap.objs.size = none := I1.hok.fresh (Nat.le_refl _)
  refine ⟨.ref s1.heap.objs.size, upd H1 s1.heap.objs.size (.lst xs), I1.laid (t' := s1.toks) (fun b u e => Heap.get?_push_of_some _ e) (Nat.le_refl _) ?_, rfl, q _ hf⟩
  exact ⟨z, us, 0, r, Heap.get?_push_size _ rfl⟩
end

noncomputable abbrev Sp := List V → Hp → VK → XK → Prop
noncomputable abbrev CXT := List Env → Hp → Shared → XK → Value → Shared → Prop

structure Env0 (P : Program) (w : World) (K : PySem.W.Frag) (mg : Str → Option Value) (base : Heap) (A : Around) (outer : List Env) (s : Shared) (H : Hp) : Prop where
  frames : A.frames = some outer
  mod : Mod K mg base
  bs : ∀ b o, base.get? b = some o → s.heap.get? b = some o ∧ H b = none
  bsz : base.objs.size ≤ s.heap.objs.size
  funs : s.heap.FunFrames base outer
  frf : ∀ b ∈ frs outer, H b = none
  hok : HOk P w H s.heap
  bare : AllBare s.gens
noncomputable def CE (outer : List Env) (P : Program) (w : World) (H : Hp) (s : Shared) (Q : VK) (u : Value) (s' : Shared) : Prop :=
  ∃ v H', s'.os = s.os ∧ AllBare s'.gens ∧ Un (frs outer) [] H H' s.heap s'.heap ∧ HOk P w H' s'.heap ∧ RelV v u ∧ Q v H'
noncomputable def CR (CX : CXT) (outer : List Env) (P : Program) (w : World) (H : Hp) (s : Shared) (Q : VK) (E : XK) (r : Result) (s' : Shared) : Prop :=
  match r with
  | .ok (.ret u) => CE outer P w H s Q u s'
  | .ok _ => False
  | .error e => CX outer H s E e s'
structure FnOk (P : Program) (w : World) (K : PySem.W.Frag) (mg : Str → Option Value) (base : Heap) (CX : CXT) (k : Nat) (f : Addr) (fd : FuncData) (ps : List Str) (sp : Sp) : Prop where
  len : ∀ vs H Q E, sp vs H Q E → vs.length = ps.length
  run : ∀ (A : Around) (outer : List Env) (s : Shared) (H : Hp) (args : Args) (us : List Value) (vs : List V) (Q : VK) (E : XK), Room k A → Env0 P w K mg base A outer s H → BindsTo s fd args (ps.zip us) → Vals vs us → sp vs H Q E →
    codeAny (model P w) A (.call (.ref f) args) (CR CX outer P w H s Q E) s
theorem FnOk.mono {P : Program} {w : World} {K : PySem.W.Frag} {mg : Str → Option Value} {base : Heap} {CX : CXT} {j k : Nat} {f : Addr} {fd : FuncData} {ps : List Str} {sp : Sp} (F : FnOk P w K mg base CX j f fd ps sp) (h : j ≤ k) :
    FnOk P w K mg base CX k f fd ps sp := ⟨F.len, fun A outer s H args us vs Q E hr => F.run A outer s H args us vs Q E (hr.mono h)⟩
theorem FnOk.imp {P : Program} {w : World} {K : PySem.W.Frag} {mg : Str → Option Value} {base : Heap} {CX : CXT} {k : Nat} {f : Addr} {fd : FuncData} {ps : List Str} {sp sp' : Sp} (F : FnOk P w K mg base CX k f fd ps sp)
    (h : ∀ vs H Q E, sp' vs H Q E → sp vs H Q E) : FnOk P w K mg base CX k f fd ps sp' :=
  ⟨fun vs H Q E q => F.len vs H Q E (h _ _ _ _ q), fun A outer s H args us vs Q E hr he hb hv hs => F.run A outer s H args us vs Q E hr he hb hv (h _ _ _ _ hs)⟩

theorem Env0.make {P : Program} {w : World} {K : PySem.W.Frag} {mg : Str → Option Value} {base : Heap} {A : Around} {outer : List Env} {s : Shared} {H : Hp} (e : Env0 P w K mg base A outer s H) (C : Addr) (us : List Value) (kw : List (Str × Value)) :
    Env0 P w K mg base (A.under (.builtin "type.__call__" ⟨.ref C :: us, kw⟩)) outer s H := ⟨by first | exact e.frames | (simpa [Around.under, Code.envs, Code.isFrame, pushEnvs] using e.frames), e.mod, e.bs, e.bsz, e.funs, e.frf, e.hok, e.bare⟩
theorem Env0.in1 {P : Program} {w : World} {K : PySem.W.Frag} {mg : Str → Option Value} {base : Heap} {A : Around} {outer : List Env} {s : Shared} {H : Hp} (e : Env0 P w K mg base A outer s H) :
    Env0 P w K mg base A.in1 outer s H := ⟨e.frames, e.mod, e.bs, e.bsz, e.funs, e.frf, e.hok, e.bare⟩

section
variable {X : Cx} {pins : List (Addr × Obj)} {σ : St} {H : Hp} {s s' : Shared}
theorem Inv.env0 (I : Inv X pins σ H s) : Env0 X.prog X.w X.K X.mg X.base X.A X.stack s H :=
  ⟨I.ok.frames, I.ok.mod, I.bs, Nat.le_trans I.ok.bsz I.sz, I.stack, I.stkFree, I.hok, I.bare⟩
theorem Inv.after {Q : VK} {u : Value} (I : Inv X pins σ H s) (h : CE X.stack X.prog X.w H s Q u s') : EP X pins σ Q u s' := by
  obtain ⟨v, H', os, bare, un, hok, r, q⟩ := h
  obtain ⟨hh, g, d, t, os'⟩ := s'
  obtain rfl : os' = s.os := os
  exact ⟨v, H', I.call (h' := hh) (g' := g) (d' := d) (t' := t) (ch := []) un hok bare (fun b z => absurd z (by simp)), r, q⟩
end

noncomputable def tCall (sp : Sp) (dvs : List V) (E : XK) (t : TA) : TE := fun σ H Q => t σ H fun vs H1 => sp (vs ++ dvs) H1 Q E
noncomputable def tMeth (C : Addr) (m : Str) (sp : Sp) (dvs : List V) (E : XK) (ta : TE) (t : TA) : TE := fun σ H Q => ta σ H fun x H1 => ∃ a dx fs, x = .ref a ∧ H1 a = some (.ins C dx fs) ∧ fs.lookup m = none ∧
  t σ H1 fun vs H2 => sp (x :: (vs ++ dvs)) H2 Q E
noncomputable def tMake (C : Addr) (sp : Sp) (dvs : List V) (E : XK) (t : TA) : TE := fun σ H Q => t σ H fun vs H1 => ∀ x dx, H1 x = none → H1 dx = none → dx ≠ x →
  sp (.ref x :: (vs ++ dvs)) (upd (upd H1 dx (.own x)) x (.ins C dx [])) (fun v H2 => v = .non ∧ Q (.ref x) H2) E

noncomputable def Binds (K : PySem.W.Frag) (fd : FuncData) (ps : List Str) (ds : List Value) : Prop :=
  ∀ (s : Shared) (us : List Value), K.In s.heap → (us ++ ds).length = ps.length → BindsTo s fd ⟨us, []⟩ (ps.zip (us ++ ds))
theorem Binds.all {K : PySem.W.Frag} {fd : FuncData} {ps : List Str} (h : ∀ us : List Value, us.length = ps.length → bindArgs fd ⟨us, []⟩ = pure (ps.zip us)) : Binds K fd ps [] := fun s us _ hl => by
  rw [List.append_nil] at hl ⊢
  exact .of_eq (h us hl)

noncomputable def Passes (CX : CXT) (X : Cx) (E : XK) : Prop := ∀ (pins : List (Addr × Obj)) (σ : St) (H : Hp) (s : Shared) (e : Value) (s' : Shared), Inv X pins σ H s → CX X.stack H s E e s' → X.xe e s'

section
variable {X : Cx} {CX : CXT} {k : Nat} {f C : Addr} {fd : FuncData} {ps : List Str} {sp : Sp} {dvs : List V} {ds : List Value} {E : XK} {x m : Str} {p pos apos : Pos} {e o : Expr} {es : List Expr} {ta : TE} {t : TA}

theorem run_fn {pins : List (Addr × Obj)} {σ : St} {H : Hp} {s : Shared} {Q : VK} {us : List Value} {vs : List V} (F : FnOk X.prog X.w X.K X.mg X.base CX k f fd ps sp) (hr : Room k X.A) (hb : Binds X.K fd ps ds) (hd : Vals dvs ds) (hx : Passes CX X E)
    (I : Inv X pins σ H s) (r : Vals vs us) (h : sp (vs ++ dvs) H Q E) : wpAny (model X.prog X.w) X.A (call (.ref f) us) (EP X pins σ Q) X.xe s := by
  have r2 : Vals (vs ++ dvs) (us ++ ds) := r.append hd
  have hl : (us ++ ds).length = ps.length := by rw [← r2.length]; exact F.len _ _ _ _ h
  refine wpAny_call (codeAny_mono (F.run X.A X.stack s H ⟨us, []⟩ (us ++ ds) (vs ++ dvs) Q E hr I.env0 (hb s us I.kIn hl) r2 h) fun r s' hq => ?_)
  cases r with
  | error e => exact hx pins σ H s e s' I hq
  | ok fl =>
    cases fl with
    | ret u => exact I.after hq
    | next => exact False.elim hq
    | brk => exact False.elim hq
    | cont => exact False.elim hq

theorem pe_call (F : FnOk X.prog X.w X.K X.mg X.base CX k f fd ps sp) (hr : Room k X.A) (hg : Gl X x) (hm : X.mg x = some (.ref f)) (hk : PySem.W.keepIn X.K (.ref f) = true) (hb : Binds X.K fd ps ds) (hd : Vals dvs ds) (hx : Passes CX X E)
    (ha : PA X (e :: es) t) (hdb : (x == ("__debug__" : Str)) = false := by decide) (he : starEach (e :: es) X.env = (false, eval e X.env) :: starEach es X.env := by rfl) (hpl : (backTo pos (starEach es X.env)).any (·.1) = false := by rfl) :
    PE X (.Call (.Name x p) (e :: es) [] pos) (tCall sp dvs E t) := by
  intro pins s σ H Q I h
  refine wpAny_Call_Name_kw (ld_glob I hg hm ?_ hdb)
  refine PySem.W.callWith_K (h₀ := X.base) I.ok.mod.kin hk (thn (ha pos pins s σ H _ I h) fun us s1 ⟨vs, H1, I1, r, q⟩ => ⟨I1.kIn, ?_⟩) he hpl
  exact run_fn F hr hb hd hx I1 r q
theorem pe_meth0 {pl : Sem Bool} (he : PE X o ta) (c : Cls X.K C) (hm : Meth X.K C m f) (F : FnOk X.prog X.w X.K X.mg X.base CX k f fd ps sp) (hr : Room k X.A) (hb : Binds X.K fd ps ds) (hd : Vals dvs ds) (hx : Passes CX X E)
    (ht : eval (.Call (.Attribute o m apos) [] [] pos) X.env = (do
      let ov ← eval o X.env
      standAt apos.atName
      let (f, first) ← holding [ov] (getMethod ov m pl)
      callWith pos f first (backTo pos (starEach [] X.env)) (backToKw pos (keywordEach [] X.env))) := by rfl) :
    PE X (.Call (.Attribute o m apos) [] [] pos) (tMeth C m sp dvs E ta tNil) := by
  intro pins s σ H Q I h
  refine PySem.W.methodCall_KW (pl := pl) (thn (he pins s σ H _ I h) fun u s1 ⟨x, H1, I1, rx, a, dx, fs, ex, ea, l, q⟩ => ?_) ht
  subst ex
  obtain rfl : u = Value.ref a := rx
  refine getmeth_ok I1 ea c hm l ?_
  exact PySem.W.callWith_K0 (first := [.ref a]) I1.kIn hm.kp (run_fn (us := [.ref a]) (vs := [.ref a]) F hr hb hd hx I1 (.cons rfl .nil) q)

structure Mk (K : PySem.W.Frag) (C f : Addr) : Prop where
  makes : PySem.W.makesIn K C = true
  init : PySem.W.findIn K (.ref C) "__init__" = some (some (.ref f))
  fn : PySem.W.isFn K (.ref f) = true
  kp : PySem.W.keepIn K (.ref C) = true

theorem run_make {pins : List (Addr × Obj)} {σ : St} {H : Hp} {s : Shared} {Q : VK} {us : List Value} {vs : List V} (M : Mk X.K C f) (F : FnOk X.prog X.w X.K X.mg X.base CX k f fd ps sp) (hr : Room (k + 1) X.A) (hb : Binds X.K fd ps ds) (hd : Vals dvs ds)
    (hx : Passes CX X E) (I : Inv X pins σ H s) (r : Vals vs us)
    (h : ∀ x dx, H x = none → H dx = none → dx ≠ x → sp (.ref x :: (vs ++ dvs)) (upd (upd H dx (.own x)) x (.ins C dx [])) (fun v H2 => v = .non ∧ Q (.ref x) H2) E) :
    wpAny (model X.prog X.w) X.A (call (.ref C) us) (EP X pins σ Q) X.xe s := by
  have hq := h (s.heap.objs.size + 1) s.heap.objs.size (I.hok.fresh (Nat.le_succ _)) (I.hok.fresh (Nat.le_refl _)) (Nat.ne_of_lt (Nat.lt_succ_self _))
  have I2 := Inv.made (C := C) I
  have r2 : Vals (V.ref (s.heap.objs.size + 1) :: (vs ++ dvs)) (Value.ref (s.heap.objs.size + 1) :: (us ++ ds)) := .cons rfl (r.append hd)
  have hl : (Value.ref (s.heap.objs.size + 1) :: us ++ ds).length = ps.length := by
    have e := r2.length
    rw [F.len _ _ _ _ hq] at e
    exact e.symm
  refine wpAny_call (make_map (f := f) I.kIn M.makes M.init (beq_iff_eq.mp M.fn) (codeAny_mono (F.run _ X.stack _ _ ⟨Value.ref (s.heap.objs.size + 1) :: us, []⟩ (Value.ref (s.heap.objs.size + 1) :: (us ++ ds)) _ _ E (hr.make C us [])
    (I2.env0.make C us []) (hb _ (Value.ref (s.heap.objs.size + 1) :: us) I2.kIn hl) r2 hq) fun r s' hq' => ?_))
  cases r with
  | error e => exact hx pins σ _ _ e s' I2 hq'
  | ok fl =>
    cases fl with
    | ret u =>
      obtain ⟨v, H', I3, rv, ev, q3⟩ := I2.after hq'
      subst ev
      exact ⟨rv, ⟨V.ref (s.heap.objs.size + 1), H', I3, rfl, q3⟩⟩
    | next => exact False.elim hq'
    | brk => exact False.elim hq'
    | cont => exact False.elim hq'
theorem pe_make (M : Mk X.K C f) (F : FnOk X.prog X.w X.K X.mg X.base CX k f fd ps sp) (hr : Room (k + 1) X.A) (hg : Gl X x) (hm : X.mg x = some (.ref C)) (hb : Binds X.K fd ps ds) (hd : Vals dvs ds) (hx : Passes CX X E)
    (ha : PA X (e :: es) t) (hdb : (x == ("__debug__" : Str)) = false := by decide) (he : starEach (e :: es) X.env = (false, eval e X.env) :: starEach es X.env := by rfl) (hpl : (backTo pos (starEach es X.env)).any (·.1) = false := by rfl) :
    PE X (.Call (.Name x p) (e :: es) [] pos) (tMake C sp dvs E t) := by
  intro pins s σ H Q I h
  refine wpAny_Call_Name_kw (ld_glob I hg hm ?_ hdb)
  refine PySem.W.callWith_K (h₀ := X.base) I.ok.mod.kin M.kp (thn (ha pos pins s σ H _ I h) fun us s1 ⟨vs, H1, I1, r, q⟩ => ⟨I1.kIn, ?_⟩) he hpl
  exact run_make M F hr hb hd hx I1 r q
end

section
variable {X : Cx} {CX : CXT} {k : Nat} {f C : Addr} {fd : FuncData} {ps ks : List Str} {sp : Sp} {E : XK} {x m : Str} {p pos apos kpos : Pos} {e o : Expr} {es : List Expr} {kws : List Keyword} {te ta : TE} {t tk : TA} {nm : Option Str}
variable {g : List Value → List Value → List Value} {gV : List V → List V → List V}
end

structure FnScope (N P : List Str) (sc : Scope) : Prop where
  kind : sc.kind = .function
  co : sc.isCoroutine = false
  gen : sc.isGenerator = false
  nd : N.Nodup
  pre : N.take P.length = P
  par : ∀ x ∈ P, sc.names.lookup x = some .local ∨ sc.names.lookup x = some .cell
  nofree : ∀ y ∈ sc.names, y.2 ≠ .free

theorem bindL_out {kindOf : Str → Option NameKind} {x : Str} : ∀ {binds : List (Str × Value)} {m : Str → Option Value}, (∀ v, (x, v) ∉ binds) → bindL kindOf binds m x = m x
  | [], _, _ => rfl
  | (n, v) :: r, m, h => by
    unfold bindL
    rw [bindL_out fun w hw => h w (List.mem_cons_of_mem _ hw)]
    split
    · have : x ≠ n := by rintro rfl; exact h v List.mem_cons_self
      simp [this]
    · rfl
theorem bindC_out {kindOf : Str → Option NameKind} {x : Str} : ∀ {binds : List (Str × Value)} {m : Str → Option Value}, (∀ v, (x, v) ∉ binds) → bindC kindOf binds m x = m x
  | [], _, _ => rfl
  | (n, v) :: r, m, h => by
    unfold bindC
    rw [bindC_out fun w hw => h w (List.mem_cons_of_mem _ hw)]
    split
    · rfl
    · have : x ≠ n := by rintro rfl; exact h v List.mem_cons_self
      simp [this]
theorem bindL_get {kindOf : Str → Option NameKind} {x : Str} {v : Value} : ∀ {P : List Str} {vs : List Value} {i : Nat} {m : Str → Option Value}, P.Nodup → P[i]? = some x → vs[i]? = some v → kindOf x = some .local →
    bindL kindOf (P.zip vs) m x = some v
  | [], _, _, _, _, h, _, _ => by simp at h
  | _ :: _, [], _, _, _, _, h, _ => by simp at h
  | p :: P, w :: vs, 0, m, nd, h1, h2, hk => by
    simp at h1 h2; subst h1; subst h2
    show bindL kindOf ((p, w) :: P.zip vs) m p = _
    unfold bindL
    rw [bindL_out fun v hv => (List.nodup_cons.mp nd).1 (List.of_mem_zip hv).1, if_pos hk]
    simp
  | p :: P, w :: vs, i + 1, m, nd, h1, h2, hk => by
    show bindL kindOf ((p, w) :: P.zip vs) m x = _
    unfold bindL
    exact bindL_get (i := i) (List.nodup_cons.mp nd).2 (by simpa using h1) (by simpa using h2) hk
theorem bindC_get {kindOf : Str → Option NameKind} {x : Str} {v : Value} : ∀ {P : List Str} {vs : List Value} {i : Nat} {m : Str → Option Value}, P.Nodup → P[i]? = some x → vs[i]? = some v → kindOf x ≠ some .local →
    bindC kindOf (P.zip vs) m x = some v
  | [], _, _, _, _, h, _, _ => by simp at h
  | _ :: _, [], _, _, _, _, h, _ => by simp at h
  | p :: P, w :: vs, 0, m, nd, h1, h2, hk => by
    simp at h1 h2; subst h1; subst h2
    show bindC kindOf ((p, w) :: P.zip vs) m p = _
    unfold bindC
    rw [bindC_out fun v hv => (List.nodup_cons.mp nd).1 (List.of_mem_zip hv).1, if_neg hk]
    simp
  | p :: P, w :: vs, i + 1, m, nd, h1, h2, hk => by
    show bindC kindOf ((p, w) :: P.zip vs) m x = _
    unfold bindC
    exact bindC_get (i := i) (List.nodup_cons.mp nd).2 (by simpa using h1) (by simpa using h2) hk

noncomputable def start (N : List Str) (vs : List V) : St := vs.map some ++ List.replicate (N.length - vs.length) none

noncomputable def cxOf (CX : CXT) (P : Program) (w : World) (K : PySem.W.Frag) (mg : Str → Option Value) (base : Heap) (N : List Str) (qual : Str) (scope : Scope) (f : Addr) (cd : Value) (A : Around) (outer : List Env) (s : Shared) (H : Hp) (E : XK) : Cx where
  prog := P
  w := w
  K := K
  mg := mg
  base := base
  A := A.deeper (envOfC qual scope s.heap.objs.size f cd)
  N := N
  s₀ := s
  H₀ := H
  env := envOfC qual scope s.heap.objs.size f cd
  outer := outer
  stack := envOfC qual scope s.heap.objs.size f cd :: outer
  ex := []
  calm := true
  fn := fun _ => true
  pn := []
  xe := fun e s' => wpAny (model P w) (A.deeper (envOfC qual scope s.heap.objs.size f cd)) («leaving» (envOfC qual scope s.heap.objs.size f cd) e) (fun _ s'' => CX outer H s E e s'') (fun e' s'' => CX outer H s E e' s'') s'

theorem cell_has {sc : Scope} {n : Nat} {x : Str} (h : sc.names.lookup x = some .cell) : ∃ c, (cellsFrom n sc.names []).lookup x = some c := by
  have q := PySem.W.cellsFrom_some sc.names n [] (.inl h)
  exact Option.isSome_iff_exists.mp q

theorem inv_start {CX : CXT} {P : Program} {w : World} {K : PySem.W.Frag} {mg : Str → Option Value} {base : Heap} {N ps : List Str} {qual : Str} {scope : Scope} {f : Addr} {cd : Value} {A : Around} {outer : List Env} {s s1 : Shared} {H : Hp} {E : XK} {us : List Value} {vs : List V}
    (S : FnScope N ps scope) (hd : A.handled = none) (e0 : Env0 P w K mg base A outer s H) (hl : vs.length = ps.length) (r : Vals vs us)
    (x : InCallC s s.heap.objs.size (bindL (envOfC qual scope s.heap.objs.size f cd).kindOf (ps.zip us) fun _ => none) (cellsFrom (s.heap.objs.size + 1) scope.names []) (bindC (envOfC qual scope s.heap.objs.size f cd).kindOf (ps.zip us) fun _ => none) s1) :
    Inv (cxOf CX P w K mg base N qual scope f cd A outer s H E) [] (start N vs) H s1 := by
  have hpl : ps.length ≤ N.length := by have := congrArg List.length S.pre; rw [List.length_take] at this; omega
  obtain ⟨h1, tk, rfl, hk⟩ := x.done
  have noA : ∀ b : Addr, b ∉ (cxOf CX P w K mg base N qual scope f cd A outer s H E).ex := fun b z => absurd (show b ∈ ([] : List Addr) from z) (by simp)
  refine ⟨⟨e0.mod, S.kind, rfl, rfl, Nat.le_refl _, fun y z c h1 h2 => ?_, fun y hy => ?_, fun y c _ h => ?_, fun _ => hd, Around.frames_deeper e0.frames, .inr ⟨rfl, rfl⟩, fun b z => absurd z (noA b), e0.bs, e0.bsz, fun b _ _ => noA b, fun b z => absurd z (noA b), e0.funs, e0.frf⟩,
    rfl, e0.bare, Un.kept hk, ⟨_, x.toInCall.ns, fun i y v h1 h2 h3 => ?_⟩, fun y c h => ⟨_, x.cell y c h⟩, e0.hok.fresh (Nat.le_refl _), fun y c h => ?_, fun p hp => absurd (show p ∈ ([] : List (Addr × Obj)) from hp) (by simp), e0.hok.kept hk, ?_⟩
  · exact name_of_addr x.apart (PySem.mem_of_lookup h1) (PySem.mem_of_lookup h2)
  · have hy : scope.names.lookup y = some .cell ∨ scope.names.lookup y = some .free := hy
    rcases hy with hy | hy
    · exact cell_has hy
    · exact absurd rfl (S.nofree _ (PySem.mem_of_lookup hy))
  · exact Nat.le_of_lt (x.above y c (PySem.mem_of_lookup h))
  · have hi : i < vs.length := by
      unfold start at h2
      by_cases hi : i < vs.length
      · exact hi
      · rw [List.getElem?_append_right (by simpa using hi)] at h2
        rw [List.getElem?_replicate] at h2
        split at h2 <;> cases h2
    have ha : vs[i]? = some v := by
      unfold start at h2
      rw [List.getElem?_append_left (by simpa using hi), List.getElem?_map] at h2
      cases e : vs[i]? with
      | none => rw [e] at h2; cases h2
      | some a => rw [e] at h2; cases h2; rfl
    obtain ⟨u, hu, rv⟩ := r.get ha
    have hp : ps[i]? = some y := by
      rw [← S.pre, List.getElem?_take_of_lt (by omega)]; exact h1
    have ndP : ps.Nodup := by rw [← S.pre]; exact S.nd.sublist (List.take_sublist _ _)
    refine ⟨u, rv, ?_⟩
    rcases S.par y (List.mem_of_getElem? hp) with k | k
    · exact .inl ⟨k, bindL_get ndP hp hu k⟩
    · obtain ⟨c, e⟩ := cell_has (n := s.heap.objs.size + 1) k
      refine .inr ⟨.inl k, c, e, ?_⟩
      have q := x.cell y c e
      rw [bindC_get ndP hp hu (by show scope.names.lookup y ≠ _; rw [k]; decide)] at q
      exact q
  · exact e0.hok.fresh (Nat.le_of_lt (x.above y c (PySem.mem_of_lookup h)))
  · unfold start
    show _ = N.length
    rw [List.length_append, List.length_map, List.length_replicate]
    omega

theorem fn_of {CX : CXT} {P : Program} {w : World} {K : PySem.W.Frag} {mg : Str → Option Value} {base : Heap} {k : Nat} {f : Addr} {name qual : Str} {params : Arguments} {body : List Stmt} {scope : Scope} {dV kV doc pm cdv ct oc : Value} {an od : Option Addr}
    {osl : Array (Option Value)} {N ps : List Str} {sp : Sp} (lk : K.lookup f = some ⟨oc, od, .func (PySem.W.fnOf name qual params body scope dV kV doc pm an cdv ct), osl⟩) (hcd : PySem.W.codeIn K cdv qual = true) (S : FnScope N ps scope)
    (len : ∀ vs H Q E, sp vs H Q E → vs.length = ps.length)
    (hbody : ∀ (A : Around) (outer : List Env) (s : Shared) (H : Hp) (vs : List V) (Q : VK) (E : XK), Room k (A.deeper (envOfC qual scope s.heap.objs.size f cdv)) → sp vs H Q E →
      ∃ t, PSs (cxOf CX P w K mg base N qual scope f cdv A outer s H E) body t ∧ t { nx := fun _ H' => Q .non H', rt := Q } (start N vs) H) :
    FnOk P w K mg base CX (k + 1) f (PySem.W.fnOf name qual params body scope dV kV doc pm an cdv ct) ps sp := by
  refine ⟨len, fun A outer s H args us vs Q E hr e0 hb r hsp => ?_⟩
  have hl := len _ _ _ _ hsp
  have KX : K.In s.heap := e0.mod.kin.keeps fun b o e => (e0.bs b o e).1
  have lim : s.heap.NoLimit := e0.mod.nolimit.keeps fun b o e => (e0.bs b o e).1
  have hkind : ∀ y ∈ ps.zip us, scope.names.lookup y.1 = some .local ∨ (scope.names.lookup y.1 = some .cell ∧ ((cellsFrom (s.heap.objs.size + 1) scope.names []).lookup y.1).isSome = true) := fun ⟨n, v⟩ hy => by
    rcases S.par n (List.of_mem_zip hy).1 with q | q
    · exact .inl q
    · exact .inr ⟨q, PySem.W.cellsFrom_some _ _ _ (.inl q)⟩
  refine codeAny_call_function hr.depth (KX _ _ lk) rfl S.co S.gen rfl (PySem.W.codeRec_of KX hcd) (hb _ _ _ _ ?_)
  refine wpAny_newFunctionEnv_cells S.kind hkind fun env he s1 x => ?_
  subst he
  refine ⟨lim.keeps x.toInCall.keep, codeAny_func ?_⟩
  obtain ⟨t, ht, hq⟩ := hbody A outer s H vs Q E (hr.deeper _) hsp
  have I : Inv (cxOf CX P w K mg base N qual scope f cdv A outer s H E) [] (start N vs) H s1 := inv_start S hr.hd e0 hl r x
  refine wpAny_mono (ht [] s1 (start N vs) H _ I hq) (fun fl s' hs => ?_) fun e s' hs => hs
  have fin : ∀ {σ' : St} {H' : Hp} {v : V} {u : Value}, Inv (cxOf CX P w K mg base N qual scope f cdv A outer s H E) [] σ' H' s' → RelV v u → Q v H' → CE outer P w H s Q u s' :=
    fun {σ' H' v u} J rv q => ⟨v, H', J.os, J.bare, J.base, J.hok, rv, q⟩
  cases fl with
  | ret u =>
    obtain ⟨v, σ', H', J, rv, q⟩ := hs
    exact fin J rv q
  | next =>
    obtain ⟨σ', H', J, q⟩ := hs
    exact fin (v := V.non) (u := Value.none) J rfl q
  | brk =>
    obtain ⟨_, _, _, q⟩ := hs
    exact False.elim q
  | cont =>
    obtain ⟨_, _, _, q⟩ := hs
    exact False.elim q
end L2

namespace L2
open PySem PySem.Spec PyProof.Rows
section
variable {X : Cx} {x : Str} {p pos : Pos} {e : Expr} {es : List Expr} {t : TA} {id T : String} {r : List V → Hp → VK → Prop}

noncomputable def tCB (r : List V → Hp → VK → Prop) (t : TA) : TE := fun σ H Q => t σ H fun vs H1 => r vs H1 Q
theorem pe_callB (hc : CallR X (.builtin id) r) (hg : Gl X x) (hm : X.mg x = none) (hv : bootBuiltins x = some (.builtin id)) (ha : PA X (e :: es) t) (hn : x ≠ "__name__" := by decide) (hdb : (x == ("__debug__" : Str)) = false := by decide)
    (he : starEach (e :: es) X.env = (false, eval e X.env) :: starEach es X.env := by rfl) (hpl : (backTo pos (starEach es X.env)).any (·.1) = false := by rfl) : PE X (.Call (.Name x p) (e :: es) [] pos) (tCB r t) := by
  intro pins s σ H Q I h
  refine wpAny_Call_Name_kw (ld_blt I hg hm hv ?_ hn hdb)
  exact PyProof.Rows.callWith_builtin1 (thn (ha pos pins s σ H _ I h) fun us s1 ⟨vs, H1, I1, r1, q1⟩ => hc pins s1 σ H1 vs us Q I1 r1 q1) he hpl
theorem pe_callTy (hc : CallR X (.type T) r) (hg : Gl X x) (hm : X.mg x = none) (hv : bootBuiltins x = some (.type T)) (ha : PA X (e :: es) t) (hn : x ≠ "__name__" := by decide) (hdb : (x == ("__debug__" : Str)) = false := by decide)
    (he : starEach (e :: es) X.env = (false, eval e X.env) :: starEach es X.env := by rfl) (hpl : (backTo pos (starEach es X.env)).any (·.1) = false := by rfl) : PE X (.Call (.Name x p) (e :: es) [] pos) (tCB r t) := by
  intro pins s σ H Q I h
  refine wpAny_Call_Name_kw (ld_blt I hg hm hv ?_ hn hdb)
  exact PyProof.Rows.callWith_type1 (thn (ha pos pins s σ H _ I h) fun us s1 ⟨vs, H1, I1, r1, q1⟩ => hc pins s1 σ H1 vs us Q I1 r1 q1) he hpl
end
end L2

namespace HT
open PySem PyProof.Rows

section
open PySem.SeqAt
open PySem.AutoSeq1 (wpAny_loadPart')
open PySem.MeetsSeq PySem.MeetsSeq2 PySem.MeetsSeq3

end

section
variable {prog : Program} {w : World} {A : Around} {E : Value → Shared → Prop} {s : Shared}

noncomputable def sIx (n d : Nat) : Option Int → Nat
  | none => d
  | some v => if v < 0 then (v + (n : Int)).toNat else min v.toNat n
theorem sIx_none (n d : Nat) : sIx n d none = d := rfl
theorem sIx_nat (n d k : Nat) : sIx n d (some (k : Int)) = min k n := by
  show (if (k : Int) < 0 then ((k : Int) + (n : Int)).toNat else min (k : Int).toNat n) = min k n
  rw [if_neg (by omega), Int.toNat_natCast]
end
end HT

namespace L2
open PySem PySem.Spec PyProof.Rows

noncomputable abbrev TO := St → Hp → (Option Int → Hp → Prop) → Prop
noncomputable def PO (X : Cx) (e : Option Expr) (t : TO) : Prop :=
  ∀ (pins : List (Addr × Obj)) (s : Shared) (σ : St) (H : Hp) (Q : Option Int → Hp → Prop), Inv X pins σ H s → t σ H Q →
    wpAny (model X.prog X.w) X.A (evalPart e X.env) (fun u s' => ∃ o H', Inv X pins σ H' s' ∧ IsPart u o ∧ Q o H') X.xe s
noncomputable def tNoPart : TO := fun _ H Q => Q none H
noncomputable def tPart (t : TE) : TO := fun σ H Q => t σ H fun x H1 => ∃ i, x = .int i ∧ Q (some i) H1

section
variable {X : Cx} {e : Expr} {te : TE} {lo hi : Option Expr} {tl th : TO} {pos p2 : Pos}

theorem po_none : PO X none tNoPart := by
  intro pins s σ H Q I h
  rw [evalPart_none]
  exact wpAny_pure ⟨none, H, I, .none, h⟩
theorem po_some (h : PE X e te) : PO X (some e) (tPart te) := by
  intro pins s σ H Q I hw
  rw [evalPart_some]
  refine thn (h pins s σ H _ I hw) fun u s1 ⟨x, H1, I1, r1, q1⟩ => ?_
  obtain ⟨i, rfl, q⟩ := q1
  obtain ⟨t, rfl⟩ := r1
  exact ⟨some i, H1, I1, .int i t, q⟩

noncomputable def SlR (X : Cx) (r : V → Option Int → Option Int → Hp → VK → Prop) : Prop :=
  ∀ (pins : List (Addr × Obj)) (s : Shared) (σ : St) (H : Hp) (x : V) (v vl vu : Value) (lo hi : Option Int) (sl : Addr) (Q : VK), Inv X pins σ H s → RelV x v → s.heap.IsSliceOf sl vl vu .none → IsPart vl lo → IsPart vu hi → r x lo hi H Q →
    ∃ T id, typeLookup (.type T) "__getitem__" = pure (some (.builtin id)) ∧ s.TypeIs v T ∧ wpAny (model X.prog X.w) X.A (getItem v (.ref sl)) (EP X pins σ Q) X.xe s
theorem SlR.or {r r' : V → Option Int → Option Int → Hp → VK → Prop} (h : SlR X r) (h' : SlR X r') : SlR X (fun x lo hi H Q => r x lo hi H Q ∨ r' x lo hi H Q) := by
  intro pins s σ H x v vl vu lo hi sl Q I rx hs pl pu q
  rcases q with q | q
  · exact h pins s σ H x v vl vu lo hi sl Q I rx hs pl pu q
  · exact h' pins s σ H x v vl vu lo hi sl Q I rx hs pl pu q
noncomputable def tSl (r : V → Option Int → Option Int → Hp → VK → Prop) (te : TE) (tl th : TO) : TE := fun σ H Q => te σ H fun x H1 => tl σ H1 fun l H2 => th σ H2 fun u H3 => r x l u H3 Q
theorem pe_slice {r : V → Option Int → Option Int → Hp → VK → Prop} (hr : SlR X r) (he : PE X e te) (hl : PO X lo tl) (hu : PO X hi th) : PE X (.Subscript e (.Slice lo hi none p2) pos) (tSl r te tl th) := by
  intro pins s σ H Q I h
  refine Subscript_ (thn (he pins s σ H _ I h) fun v s1 ⟨x, H1, I1, r1, q1⟩ => ?_)
  refine wpAny_Slice (thn (hl pins s1 σ H1 _ I1 q1) fun vl s2 ⟨l, H2, I2, pl, q2⟩ => thn (hu pins s2 σ H2 _ I2 q2) fun vu s3 ⟨u, H3, I3, pu, q3⟩ => ?_)
  rw [evalPart_none]
  refine wpAny_pure ?_
  have I4 : Inv X pins σ H3 { s3 with heap := s3.heap.push { cls := .type "slice", data := .fields #[vl, vu, .none] } } := I3.kept (t' := s3.toks) fun b ob q => Heap.get?_push_of_some _ q
  obtain ⟨T, id, hT, ht, hg⟩ := hr pins { s3 with heap := s3.heap.push { cls := .type "slice", data := .fields #[vl, vu, .none] } } σ H3 x v vl vu l u s3.heap.objs.size Q I4 r1 (Heap.IsSliceOf.new ..) pl pu q3
  show wpAny (model X.prog X.w) X.A (subscriptTail e (.Slice lo hi none p2) v (.ref s3.heap.objs.size)) (EP X pins σ Q) X.xe { s3 with heap := s3.heap.push { cls := .type "slice", data := .fields #[vl, vu, .none] } }
  exact tail_any (ops := [.ref s3.heap.objs.size, v]) ht hT hg (by with_unfolding_all rfl)

noncomputable def cutV (xs : List V) (lo hi : Option Int) : List V := (xs.drop (HT.sIx xs.length 0 lo)).take (HT.sIx xs.length xs.length hi - HT.sIx xs.length 0 lo)
theorem cutV_length (xs : List V) (lo hi : Option Int) : (cutV xs lo hi).length ≤ xs.length := by
  unfold cutV
  rw [List.length_take, List.length_drop]
  omega
end
end L2

namespace L2
open PySem PySem.Spec PyProof.Rows

noncomputable def ixN (n : Nat) (i : Int) : Option Nat := if 0 ≤ i then (if i < n then some i.toNat else none) else if -(n : Int) ≤ i then some (i + n).toNat else none
noncomputable def atI {α : Type} (xs : List α) (i : Int) : Option α := (ixN xs.length i).bind fun j => xs[j]?
theorem ixN_seq {n : Nat} {i : Int} {j : Nat} (h : ixN n i = some j) : seqIndex? i n = some j ∧ j < n ∧ -(n : Int) ≤ i ∧ i < n := by
  unfold ixN at h
  by_cases h0 : 0 ≤ i
  · rw [if_pos h0] at h
    by_cases h1 : i < n
    · rw [if_pos h1] at h
      have e : i.toNat = j := Option.some.inj h
      exact ⟨by rw [seqIndex_of h0 h1, e], by omega, by omega, h1⟩
    · rw [if_neg h1] at h; cases h
  · rw [if_neg h0] at h
    by_cases h1 : -(n : Int) ≤ i
    · rw [if_pos h1] at h
      have e : (i + n).toNat = j := Option.some.inj h
      exact ⟨by rw [seqIndex_neg (by omega) h1, e], by omega, h1, by omega⟩
    · rw [if_neg h1] at h; cases h
theorem atI_get {α : Type} {xs : List α} {i : Int} {v : α} (h : atI xs i = some v) : ∃ j, seqIndex? i xs.length = some j ∧ xs[j]? = some v ∧ j < xs.length ∧ -(xs.length : Int) ≤ i ∧ i < xs.length := by
  unfold atI at h
  cases e : ixN xs.length i with
  | none => rw [e] at h; cases h
  | some j =>
    rw [e] at h
    obtain ⟨h1, h2, h3, h4⟩ := ixN_seq e
    exact ⟨j, h1, h, h2, h3, h4⟩
theorem atI_nat {α : Type} {xs : List α} {j : Nat} {v : α} (h : xs[j]? = some v) : atI xs (j : Int) = some v := by
  have hj : j < xs.length := (List.getElem?_eq_some_iff.mp h).1
  have e : ixN xs.length (j : Int) = some j := by
    unfold ixN
    rw [if_pos (by omega), if_pos (by omega)]; simp
  unfold atI; rw [e]; exact h
noncomputable def PlainIx (b : Expr) : Prop := ∀ o i, subscripted b false o i = operate [o, i] (getItem o i)
noncomputable def IxR (X : Cx) (r : R2) : Prop :=
  ∀ (value slice : Expr) (pins : List (Addr × Obj)) (s : Shared) (σ : St) (H : Hp) (x y : V) (v u : Value) (Q : VK), Inv X pins σ H s → RelV x v → RelV y u → r x y H Q →
    subscripted slice false v u = operate [v, u] (getItem v u) → wpAny (model X.prog X.w) X.A (subscriptTail value slice v u) (EP X pins σ Q) X.xe s
noncomputable def MtR (X : Cx) (id : String) (r : V → List V → Hp → VK → Prop) : Prop :=
  ∀ (pins : List (Addr × Obj)) (s : Shared) (σ : St) (H : Hp) (x : V) (xs : List V) (v : Value) (us : List Value) (Q : VK), Inv X pins σ H s → RelV x v → Vals xs us → r x xs H Q →
    wpAny (model X.prog X.w) X.A (call (.builtin id) (v :: us)) (EP X pins σ Q) X.xe s
section
variable {X : Cx} {a b : Expr} {ta tb : TE} {pos : Pos}
theorem IxR.or {r r' : R2} (h : IxR X r) (h' : IxR X r') : IxR X (fun x y H Q => r x y H Q ∨ r' x y H Q) := by
  intro value slice pins s σ H x y v u Q I rx ry q hs
  rcases q with q | q
  · exact h value slice pins s σ H x y v u Q I rx ry q hs
  · exact h' value slice pins s σ H x y v u Q I rx ry q hs
theorem MtR.or {id : String} {r r' : V → List V → Hp → VK → Prop} (h : MtR X id r) (h' : MtR X id r') : MtR X id (fun x xs H Q => r x xs H Q ∨ r' x xs H Q) := by
  intro pins s σ H x xs v us Q I rx rs q
  rcases q with q | q
  · exact h pins s σ H x xs v us Q I rx rs q
  · exact h' pins s σ H x xs v us Q I rx rs q
theorem pe_ix {r : R2} (hr : IxR X r) (ha : PE X a ta) (hb : PE X b tb) (hs : PlainIx b) : PE X (.Subscript a b pos) (tOp r ta tb) := by
  intro pins s σ H Q I h
  exact Subscript_ (binT ha hb I h fun v u s2 x y H2 I2 rx ry q => hr a b pins s2 σ H2 x y v u Q I2 rx ry q (hs _ _))

noncomputable def rIxL (K : PySem.W.Frag) : R2 := fun x y H Q => ∃ p xs i v, x = .ref p ∧ y = .int i ∧ SqL K H p xs ∧ atI xs i = some v ∧ Q v H
noncomputable def rIxT (K : PySem.W.Frag) : R2 := fun x y H Q => ∃ p xs i v, x = .ref p ∧ y = .int i ∧ SqT K H p xs ∧ atI xs i = some v ∧ Q v H
noncomputable def rIxS : R2 := fun x y H Q => ∃ z i c, x = .str z ∧ y = .int i ∧ z.length ≤ sizeLine ∧ atI z.cps.toList i = some c ∧ Q (.str ⟨#[c]⟩) H
theorem ix_list : IxR X (rIxL X.K) := by
  intro value slice pins s σ H x y v u Q I rx ry h hs
  obtain ⟨p, xs, i, z, rfl, rfl, hq, he, q⟩ := h
  cases rx
  obtain ⟨t, rfl⟩ := ry
  obtain ⟨its, r, pl, hz⟩ := I.list hq
  obtain ⟨j, h1, h2, h3, h4, h5⟩ := atI_get he
  obtain ⟨w, ew, rw'⟩ := r.get h2
  have hl := r.length
  have hn := line63
  have fin : EP X pins σ Q w s := ⟨z, H, I, rw', q⟩
  by_cases h0 : 0 ≤ i
  · have hj : i.toNat = j := by
      rw [seqIndex_of h0 h5] at h1
      exact Option.some.inj h1
    exact item_listR pl.isList h0 (by omega) (by rw [hj]; simpa using ew) fin hs
  · have hj : (i + (its.toArray.size : Int)).toNat = j := by
      rw [seqIndex_neg (by omega) h4] at h1
      rw [List.size_toArray, ← hl]
      exact Option.some.inj h1
    exact subscriptTail_builtinR (x := w) pl.isList.typeIs slot_list_getitem.lookup
      (wpAny_getItem_list_neg (Q := fun r s' => r = w ∧ EP X pins σ Q r s') pl.isList (by omega) (by rw [List.size_toArray] <;> omega) (by omega) (by rw [hj]; simpa using ew) ⟨rfl, fin⟩) hs
theorem ix_tup : IxR X (rIxT X.K) := by
  intro value slice pins s σ H x y v u Q I rx ry h hs
  obtain ⟨p, xs, i, z, rfl, rfl, hq, he, q⟩ := h
  cases rx
  obtain ⟨t, rfl⟩ := ry
  obtain ⟨its, r, pl, hz⟩ := I.tuple hq
  obtain ⟨j, h1, h2, h3, h4, h5⟩ := atI_get he
  obtain ⟨w, ew, rw'⟩ := r.get h2
  have hl := r.length
  have hn := line63
  have fin : EP X pins σ Q w s := ⟨z, H, I, rw', q⟩
  exact subscriptTail_builtinR (x := w) pl.typeIs slot_tuple_getitem.lookup
    (getItem_tuple (j := j) (Q := fun r s' => r = w ∧ EP X pins σ Q r s') pl (by omega) (by omega) (by rw [List.size_toArray, ← hl]; exact h1) (by simpa using ew) ⟨rfl, fin⟩) hs
theorem ix_str : IxR X rIxS := by
  intro value slice pins s σ H x y v u Q I rx ry h hs
  obtain ⟨z, i, c, rfl, rfl, hz, he, q⟩ := h
  obtain ⟨t, rfl⟩ := rx
  obtain ⟨t', rfl⟩ := ry
  obtain ⟨j, h1, h2, h3, h4, h5⟩ := atI_get he
  have hl : z.cps.toList.length = z.length := by simp [Str.length]
  rw [hl] at h1 h4 h5
  have hn := line63
  exact tail_any (typeIs_str s z t) slot_str_getitem.lookup (getItem_str (c := c) (by
    have e1 : decide (i < -(2 ^ 63 : Int)) = false := decide_eq_false (by omega)
    have e2 : decide (i ≥ 2 ^ 63) = false := decide_eq_false (by omega)
    rw [e1, e2, Bool.or_false]) (by rw [h1]; simpa using h2) ⟨.str ⟨#[c]⟩, H, I.tok _, ⟨_, rfl⟩, q⟩) hs
theorem Inv.lst {pins : List (Addr × Obj)} {σ : St} {H : Hp} {s : Shared} {p : Addr} {xs : List V} (I : Inv X pins σ H s) (h : H p = some (.lst xs)) :
    ∃ (its : List Value) (n : Nat), Vals xs its ∧ s.heap.get? p = some { cls := .type "list", data := .seq its.toArray n } ∧ xs.length ≤ sizeLine := by
  obtain ⟨z, its, n, r, e⟩ := I.hok p _ h
  exact ⟨its, n, r, e, z⟩
theorem slice_bounds (lo hi : Option Int) (n : Nat) : (sliceBounds lo hi none n).1 = ((HT.sIx n 0 lo : Nat) : Int) ∧ (sliceBounds lo hi none n).2.1 = ((HT.sIx n n hi : Nat) : Int) ∧ (sliceBounds lo hi none n).2.2 = 1 := by
  refine ⟨?_, ?_, rfl⟩
  · cases lo with
    | none => simp [sliceBounds, HT.sIx]
    | some i =>
      simp only [sliceBounds, HT.sIx, Option.getD_none, show (1 : Int) > 0 by decide, if_true]
      by_cases h : i < 0
      · simp only [h, if_true] <;> omega
      · simp only [h, if_false] <;> omega
  · cases hi with
    | none => simp [sliceBounds, HT.sIx]
    | some i =>
      simp only [sliceBounds, HT.sIx, Option.getD_none, show (1 : Int) > 0 by decide, if_true]
      by_cases h : i < 0
      · simp only [h, if_true] <;> omega
      · simp only [h, if_false] <;> omega
theorem slicePick_cut (its : List Value) (lo hi : Option Int) : slicePick its.toArray lo hi none = ((its.drop (HT.sIx its.length 0 lo)).take (HT.sIx its.length its.length hi - HT.sIx its.length 0 lo)).toArray := by
  obtain ⟨h1, h2, h3⟩ := slice_bounds lo hi its.toArray.size
  unfold slicePick
  rw [h1, h2, h3]
  simp only [sliceRange_one, pick_run, List.size_toArray] <;> rfl
noncomputable def rSlL (K : PySem.W.Frag) : V → Option Int → Option Int → Hp → VK → Prop := fun x lo hi H Q => ∃ a xs, x = .ref a ∧ SqL K H a xs ∧ ∀ p, H p = none → Q (.ref p) (upd H p (.lst (cutV xs lo hi)))
theorem sl_list : SlR X (rSlL X.K) := by
  intro pins s σ H x v vl vu lo hi sl Q I rx hs pl pu h
  obtain ⟨a, xs, rfl, hx, q⟩ := h
  cases rx
  obtain ⟨its, r, ht, hz⟩ := I.list hx
  have hlen := r.length
  refine ⟨"list", _, slot_list_getitem.lookup, ht.isList.typeIs, ?_⟩
  refine wpAny_getItem_list_slice ht.isList hs pl pu .none (by simp) ?_ (by rw [List.size_toArray] <;> omega)
  rw [slicePick_cut, ← hlen]
  refine ⟨.ref s.heap.objs.size, _, I.laid (t' := s.toks) (o := .lst (cutV xs lo hi)) (fun b ob q => Heap.get?_push_of_some _ q) (Nat.le_refl _) ?_, rfl, q _ (I.hok.fresh (Nat.le_refl _))⟩
  exact ⟨Nat.le_trans (cutV_length xs lo hi) hz, _, 0, (r.drop (HT.sIx xs.length 0 lo)).take (HT.sIx xs.length xs.length hi - HT.sIx xs.length 0 lo), Heap.get?_push_size _ rfl⟩

noncomputable def flatV : V → Bool
  | .non => true
  | .bl _ => true
  | .int _ => true
  | .str _ => true
  | _ => false
noncomputable def eqV : V → V → Bool
  | .non, .non => true
  | .bl a, .bl b => a == b
  | .bl a, .int b => (if a then 1 else 0) == b
  | .int a, .bl b => a == (if b then 1 else 0)
  | .int a, .int b => a == b
  | .str a, .str b => a == b
  | _, _ => false
theorem eqAt_V {A : Around} {s : Shared} {y x : V} {u v : Value} (ry : RelV y u) (rx : RelV x v) (fy : flatV y = true) (fx : flatV x = true) : SeqAt.EqAt A s u v (eqV y x) := by
  cases y with
  | non =>
    cases ry
    cases x with
    | non => cases rx; exact SeqAt.EqAt.same _
    | bl b => cases rx; exact SeqAt.EqAt.none_bool b
    | int b => obtain ⟨t, rfl⟩ := rx; exact SeqAt.EqAt.none_int b t
    | str b => obtain ⟨t, rfl⟩ := rx; exact SeqAt.EqAt.none_str b t
    | _ => exact absurd (show false = true from fx) Bool.false_ne_true
  | bl a =>
    cases ry
    cases x with
    | non => cases rx; exact SeqAt.EqAt.bool_none a
    | bl b => cases rx; exact SeqAt.EqAt.bool_bool a b
    | int b => obtain ⟨t, rfl⟩ := rx; exact SeqAt.EqAt.bool_int a b t
    | str b => obtain ⟨t, rfl⟩ := rx; exact SeqAt.EqAt.bool_str a b t
    | _ => exact absurd (show false = true from fx) Bool.false_ne_true
  | int a =>
    obtain ⟨t', rfl⟩ := ry
    cases x with
    | non => cases rx; exact SeqAt.EqAt.int_none a t'
    | bl b => cases rx; exact SeqAt.EqAt.int_bool a t' b
    | int b => obtain ⟨t, rfl⟩ := rx; exact SeqAt.EqAt.int_int a t' b t
    | str b => obtain ⟨t, rfl⟩ := rx; exact SeqAt.EqAt.int_str a t' b t
    | _ => exact absurd (show false = true from fx) Bool.false_ne_true
  | str a =>
    obtain ⟨t', rfl⟩ := ry
    cases x with
    | non => cases rx; exact SeqAt.EqAt.str_none a t'
    | bl b => cases rx; exact SeqAt.EqAt.str_bool a t' b
    | int b => obtain ⟨t, rfl⟩ := rx; exact SeqAt.EqAt.str_int a t' b t
    | str b => obtain ⟨t, rfl⟩ := rx; exact SeqAt.EqAt.str_str a t' b t
    | _ => exact absurd (show false = true from fx) Bool.false_ne_true
  | _ => exact absurd (show false = true from fy) Bool.false_ne_true
noncomputable def eqU (x : V) (u : Value) : Bool := match u with
  | .none => eqV .non x
  | .bool b => eqV (.bl b) x
  | .int i _ => eqV (.int i) x
  | .str z _ => eqV (.str z) x
  | _ => false
theorem eqU_of {x y : V} {u : Value} (r : RelV y u) (f : flatV y = true) : eqU x u = eqV y x := by
  cases y with
  | non => cases r; rfl
  | bl b => cases r; rfl
  | int i => obtain ⟨t, rfl⟩ := r; rfl
  | str z => obtain ⟨t, rfl⟩ := r; rfl
  | _ => exact absurd (show false = true from f) Bool.false_ne_true
theorem any_eqU {x : V} : ∀ {xs : List V} {us : List Value}, Vals xs us → xs.all flatV = true → us.any (eqU x) = xs.any fun y => eqV y x
  | _, _, .nil, _ => rfl
  | y :: xs, u :: us, .cons r t, f => by
    rw [List.all_cons, Bool.and_eq_true] at f
    rw [List.any_cons, List.any_cons, eqU_of r f.1, any_eqU t f.2]
theorem mem_eqAt {A : Around} {s : Shared} {x : V} {v : Value} (rx : RelV x v) (fx : flatV x = true) : ∀ {xs : List V} {us : List Value}, Vals xs us → xs.all flatV = true → ∀ u ∈ us, SeqAt.EqAt A s u v (eqU x u)
  | _, _, .nil, _ => fun u hu => by cases hu
  | y :: xs, u :: us, .cons r t, f => fun u' hu => by
    rw [List.all_cons, Bool.and_eq_true] at f
    rcases List.mem_cons.mp hu with rfl | hu
    · rw [eqU_of r f.1]; exact eqAt_V r rx f.1 fx
    · exact mem_eqAt rx fx t f.2 u' hu
noncomputable def inV (x : V) (xs : List V) : Bool := xs.any fun y => eqV y x
noncomputable def rIn (K : PySem.W.Frag) (neg : Bool) : R2 := fun x y H Q => ∃ p xs, y = .ref p ∧ (SqL K H p xs ∨ SqT K H p xs) ∧ flatV x = true ∧ xs.all flatV = true ∧ Q (.bl (if neg then !inV x xs else inV x xs)) H
theorem op_in_seq : OpR X (compareOp .In) (rIn X.K false) := by
  intro pins s σ H x y v u Q I rx ry h
  obtain ⟨p, xs, rfl, hq, fx, fs, q⟩ := h
  cases ry
  rcases hq with hq | hq
  · obtain ⟨its, r, pl, hz⟩ := I.list hq
    refine SeqAt.in_listAt (eqU x) pl.isList (fun w hw => mem_eqAt rx fx r fs w (by simpa using hw)) ⟨.bl _, H, I, rfl, ?_⟩
    rw [show its.toArray.any (eqU x) = its.any (eqU x) by simp, any_eqU r fs]
    exact q
  · obtain ⟨its, r, pl, hz⟩ := I.tuple hq
    refine SeqAt.in_tupleAt (eqU x) pl (fun w hw => mem_eqAt rx fx r fs w (by simpa using hw)) ⟨.bl _, H, I, rfl, ?_⟩
    rw [show its.toArray.any (eqU x) = its.any (eqU x) by simp, any_eqU r fs]
    exact q
theorem op_notIn_seq : OpR X (compareOp .NotIn) (rIn X.K true) := by
  intro pins s σ H x y v u Q I rx ry h
  obtain ⟨p, xs, rfl, hq, fx, fs, q⟩ := h
  cases ry
  rcases hq with hq | hq
  · obtain ⟨its, r, pl, hz⟩ := I.list hq
    refine SeqAt.notIn_listAt (eqU x) pl.isList (fun w hw => mem_eqAt rx fx r fs w (by simpa using hw)) ⟨.bl _, H, I, rfl, ?_⟩
    rw [show its.toArray.any (eqU x) = its.any (eqU x) by simp, any_eqU r fs]
    exact q
  · obtain ⟨its, r, pl, hz⟩ := I.tuple hq
    refine SeqAt.notIn_tupleAt (eqU x) pl (fun w hw => mem_eqAt rx fx r fs w (by simpa using hw)) ⟨.bl _, H, I, rfl, ?_⟩
    rw [show its.toArray.any (eqU x) = its.any (eqU x) by simp, any_eqU r fs]
    exact q
theorem call_len_seq : CallR X (.builtin "len") (fun xs H Q => ∃ p ys, xs = [.ref p] ∧ (SqL X.K H p ys ∨ SqT X.K H p ys) ∧ Q (.int ys.length) H) := by
  intro pins s σ H xs us Q I r h
  obtain ⟨p, ys, rfl, hq, q⟩ := h
  obtain ⟨u, rfl, rx⟩ := vals1 r
  cases rx
  have hn := line63
  rcases hq with hq | hq
  · obtain ⟨its, r', pl, hz⟩ := I.list hq
    have hlen := r'.length
    exact Calls.call_len_list pl.isList (by simp only [List.size_toArray] <;> omega) ⟨.int ys.length, H, I.tok _, ⟨s.toks + 1, by rw [List.size_toArray, hlen]⟩, q⟩
  · obtain ⟨its, r', pl, hz⟩ := I.tuple hq
    have hlen := r'.length
    exact len_tuple pl (by simp only [List.size_toArray] <;> omega) ⟨.int ys.length, H, I.tok _, ⟨s.toks + 1, by rw [List.size_toArray, hlen]⟩, q⟩
theorem CallR.or {f : Value} {r r' : List V → Hp → VK → Prop} (h : CallR X f r) (h' : CallR X f r') : CallR X f (fun xs H Q => r xs H Q ∨ r' xs H Q) := by
  intro pins s σ H xs us Q I rs q
  rcases q with q | q
  · exact h pins s σ H xs us Q I rs q
  · exact h' pins s σ H xs us Q I rs q
theorem call_list_of : CallR X (.type "list") (fun xs H Q => ∃ p ys, xs = [.ref p] ∧ (SqL X.K H p ys ∨ SqT X.K H p ys) ∧ ∀ l, H l = none → Q (.ref l) (upd H l (.lst ys))) := by
  intro pins s σ H xs us Q I r h
  obtain ⟨p, ys, rfl, hq, q⟩ := h
  obtain ⟨u, rfl, rx⟩ := vals1 r
  cases rx
  have fin : ∀ (its : List Value), Vals ys its → ys.length ≤ sizeLine → ∀ (h' : Heap) (c' : Nat), (∀ b o', s.heap.get? b = some o' → h'.get? b = some o') →
      h'.get? s.heap.objs.size = some { cls := .type "list", dict := none, data := .seq its.toArray c', slots := #[] } → EP X pins σ Q (.ref s.heap.objs.size) { s with heap := h' } := fun its r' hz h' c' kp e =>
    ⟨.ref s.heap.objs.size, _, I.laid (t' := s.toks) kp (Nat.le_refl _) (show ObjOk X.prog X.w _ h' _ (.lst ys) from ⟨hz, its, c', r', e⟩), rfl, q _ (I.hok.fresh (Nat.le_refl _))⟩
  rcases hq with hq | hq
  · obtain ⟨its, r', pl, hz⟩ := I.list hq
    have hlen := r'.length
    obtain ⟨o, ho, hc, n, hd⟩ := pl.isList
    exact call_list_seq p (.inl rfl) ho hc hd (fun h' c' kp e => fin its r' hz h' c' kp e) (by simp only [List.size_toArray] <;> omega)
  · obtain ⟨its, r', pl, hz⟩ := I.tuple hq
    have hlen := r'.length
    obtain ⟨o, ho, hc, n, hd⟩ := pl
    exact call_list_seq p (.inr rfl) ho hc hd (fun h' c' kp e => fin its r' hz h' c' kp e) (by simp only [List.size_toArray] <;> omega)
noncomputable def tyV (K : PySem.W.Frag) (T : String) (x : V) (H : Hp) : Prop := match x with
  | .str _ => T = "str"
  | .int _ => T = "int"
  | .ref p => (T = "list" ∧ ∃ xs, SqL K H p xs) ∨ (T = "tuple" ∧ ∃ o, K.lookup p = some o ∧ o.cls = .type "tuple" ∧ o.dict = none) ∨
      (T = "dict" ∧ ((∃ kvs, H p = some (.dK kvs)) ∨ ∃ kvs, H p = some (.dT kvs))) ∨ (T = "set" ∧ ∃ S n, H p = some (.set S n))
  | _ => False
theorem tyV_is {pins : List (Addr × Obj)} {σ : St} {H : Hp} {s : Shared} {T : String} {x : V} {v : Value} (I : Inv X pins σ H s) (r : RelV x v) (ty : tyV X.K T x H) :
    s.TypeIs v T ∧ ∀ a, v = .ref a → ∃ ob, s.heap.get? a = some ob ∧ ob.dict = none := by
  cases x with
  | str z =>
    obtain ⟨t, rfl⟩ := r
    cases (show T = "str" from ty)
    exact ⟨typeIs_str s z t, fun _ e => nomatch e⟩
  | int i =>
    obtain ⟨t, rfl⟩ := r
    cases (show T = "int" from ty)
    exact ⟨typeIs_int s i t, fun _ e => nomatch e⟩
  | ref p =>
    cases r
    rcases ty with ⟨rfl, xs, hq⟩ | ⟨rfl, o, hk, hc, hd⟩ | ⟨rfl, hk⟩ | ⟨rfl, S, n, hk⟩
    · obtain ⟨its, _, pl, _⟩ := I.list hq
      refine ⟨pl.isList.typeIs, fun a e => ?_⟩
      cases e
      obtain ⟨o, n, e, c, hd, _⟩ := pl
      exact ⟨o, e, hd⟩
    · refine ⟨⟨o, I.kIn p o hk, hc⟩, fun a e => ?_⟩
      cases e
      exact ⟨o, I.kIn _ o hk, hd⟩
    · have z : ∃ o, s.heap.get? p = some o ∧ o.ExactDict := by
        rcases hk with ⟨kvs, hk⟩ | ⟨kvs, hk⟩
        · obtain ⟨_, _, _, _, o, _, _, e, ex, _⟩ := I.hok p _ hk
          exact ⟨o, e, ex⟩
        · obtain ⟨_, _, _, _, o, _, _, e, ex, _⟩ := I.hok p _ hk
          exact ⟨o, e, ex⟩
      obtain ⟨o, e, ex⟩ := z
      refine ⟨⟨o, e, ex.1⟩, fun a e2 => ?_⟩
      cases e2
      exact ⟨o, e, ex.2.1⟩
    · obtain ⟨o, _, _, _, e, ex, _⟩ := I.hok p _ hk
      refine ⟨⟨o, e, ex.1⟩, fun a e2 => ?_⟩
      cases e2
      exact ⟨o, e, ex.2.1⟩
  | _ => exact False.elim ty
noncomputable def tBM0 (K : PySem.W.Frag) (T : String) (r : V → List V → Hp → VK → Prop) (to : TE) : TE := fun σ H Q => to σ H fun x H1 => tyV K T x H1 ∧ r x [] H1 Q
noncomputable def tBM (K : PySem.W.Frag) (T : String) (r : V → List V → Hp → VK → Prop) (to : TE) (t : TA) : TE := fun σ H Q => to σ H fun x H1 => tyV K T x H1 ∧ t σ H1 fun xs H2 => r x xs H2 Q
variable {o e : Expr} {es : List Expr} {to : TE} {t : TA} {name : Str} {apos cpos : Pos} {T id : String} {r : V → List V → Hp → VK → Prop}
theorem pe_bm0 (pa : PlainAttrs T) (slot : Slot T name id) (hty : typeOf (.builtin id) = pure (.type "method_descriptor")) (hm : MtR X id r) (ho : PE X o to)
    (hbase : attributeBase o name X.env (eval o X.env) = eval o X.env := by rfl) (hline : (apos.endLine == cpos.line) = true := by rfl) : PE X (.Call (.Attribute o name apos) [] [] cpos) (tBM0 X.K T r to) := by
  intro pins s σ H Q I h
  refine wpAny_Call_method0_late hbase hline (thn (ho pins s σ H _ I h) fun v s1 ⟨x, H1, I1, r1, ty, q1⟩ => ?_)
  obtain ⟨h1, h2⟩ := tyV_is I1 r1 ty
  exact ⟨T, id, pa, slot, hty, h1, h2, Calls.callWith_builtin rfl (PySem.evalArgs_none (hm pins s1 σ H1 x [] v [] Q I1 r1 .nil q1))⟩
theorem pe_bm (pa : PlainAttrs T) (slot : Slot T name id) (hty : typeOf (.builtin id) = pure (.type "method_descriptor")) (hm : MtR X id r) (ho : PE X o to) (ha : PA X (e :: es) t)
    (hbase : attributeBase o name X.env (eval o X.env) = eval o X.env := by rfl)
    (hfew : ((backTo cpos (starEach (e :: es) X.env)).all (fun x => !x.1) && (backToKw cpos (keywordEach [] X.env)).all (fun x => x.1.isSome)
      && decide ((e :: es).length + ([] : List Keyword).length + (if ([] : List Keyword).isEmpty then 0 else 1) < 30)) = true := by rfl)
    (hline : (apos.endLine == cpos.line) = true := by rfl) (hs : starEach (e :: es) X.env = (false, eval e X.env) :: starEach es X.env := by rfl) (hplain : (backTo cpos (starEach es X.env)).any (·.1) = false := by rfl) :
    PE X (.Call (.Attribute o name apos) (e :: es) [] cpos) (tBM X.K T r to t) := by
  intro pins s σ H Q I h
  refine wpAny_Call_method_late hbase hfew hline rfl (thn (ho pins s σ H _ I h) fun v s1 ⟨x, H1, I1, r1, ty, q1⟩ => ?_)
  obtain ⟨h1, h2⟩ := tyV_is I1 r1 ty
  refine ⟨T, id, pa, slot, hty, h1, h2, ?_⟩
  have hA := ha cpos pins s1 σ H1 _ I1 q1
  rw [hs] at hA ⊢
  refine Calls.callWith_builtin (by show (false || (backTo cpos (starEach es X.env)).any (·.1)) = false; rw [hplain] <;> rfl) (Calls.evalArgs_plain ?_)
  exact thn hA fun us s2 ⟨vs, H2, I2, r2, q2⟩ => hm pins s2 σ H2 x vs v us Q I2 r1 r2 q2
/- xs.append(e), list.index on a module's tuple .. are MtR facts of 06m -/
end
end L2

namespace L2
open PySem PySem.Spec PyProof.Rows

noncomputable def MtM (X : Cx) (id : String) (r : V → List V → Hp → VK → Prop) : Prop :=
  ∀ (pins : List (Addr × Obj)) (s : Shared) (σ : St) (H : Hp) (x : V) (xs : List V) (v : Value) (us : List Value) (Q : VK), Inv X pins σ H s → RelV x v → Vals xs us → r x xs H Q →
    wpAny (model X.prog X.w) X.A (call (.builtin id) (v :: us)) (EP X pins σ Q) X.xe s

theorem Vals.one : ∀ {x : V} {us : List Value}, Vals [x] us → ∃ u, us = [u] ∧ RelV x u
  | _, _, .cons r .nil => ⟨_, rfl, r⟩
theorem Vals.two : ∀ {x y : V} {us : List Value}, Vals [x, y] us → ∃ u v, us = [u, v] ∧ RelV x u ∧ RelV y v
  | _, _, _, .cons r (.cons q .nil) => ⟨_, _, rfl, r, q⟩
theorem Vals.zero : ∀ {us : List Value}, Vals [] us → us = []
  | _, .nil => rfl
theorem Vals.dropLast {xs : List V} {us : List Value} (h : Vals xs us) : Vals xs.dropLast us.dropLast := by
  induction h with
  | nil => exact .nil
  | cons r t ih =>
    cases t with
    | nil => exact .nil
    | cons q t' => exact .cons r ih
theorem Vals.reverse {xs : List V} {us : List Value} (h : Vals xs us) : Vals xs.reverse us.reverse := by
  induction h with
  | nil => exact .nil
  | cons r t ih => rw [List.reverse_cons, List.reverse_cons]; exact Vals.append ih (.cons r .nil)
section
variable {X : Cx} {pins : List (Addr × Obj)} {σ : St} {H : Hp} {s : Shared} {l b : Addr} {xs ys zs : List V}

theorem Inv.lset {its its' : List Value} {n : Nat} {f : Array Value → Array Value} {t' : Nat} (I : Inv X pins σ H s) (hH : H l = some (.lst xs))
    (e : s.heap.get? l = some { cls := .type "list", data := .seq its.toArray n }) (hf : f its.toArray = its'.toArray) (hv : Vals ys its') (hz : ys.length ≤ sizeLine) :
    Inv X pins σ (upd H l (.lst ys)) { s with heap := s.heap.update l (Obj.mapSeq f), toks := t' } := by
  have q := PySem.IsL.update e f
  rw [hf] at q
  refine I.write (x := l) (e := l) (by rw [hH]; exact trivial) (.inl rfl) (fun b' u hb hu => (Heap.get?_update_other s.heap (Obj.mapSeq f) (Ne.symm hb)).trans hu) ⟨_, q⟩ ?_
  exact ⟨hz, its', _, hv, q⟩
theorem Inv.lnew {its : List Value} {t' : Nat} (I : Inv X pins σ H s) (hv : Vals ys its) (hz : ys.length ≤ sizeLine) :
    Inv X pins σ (upd H s.heap.objs.size (.lst ys)) { s with heap := s.heap.push { cls := .type "list", data := .seq its.toArray }, toks := t' } :=
  I.laid (fun _ _ q => Heap.get?_push_of_some _ q) (Nat.le_refl _) ⟨hz, its, 0, hv, Heap.get?_push_size _ rfl⟩
theorem Inv.fresh (I : Inv X pins σ H s) : H s.heap.objs.size = none := I.hok.fresh (Nat.le_refl _)
theorem Inv.lstM (I : Inv X pins σ H s) (hH : H l = some (.lst xs)) : xs.length ≤ sizeLine ∧ ∃ (its : List Value) (n : Nat), Vals xs its ∧ xs.length = its.length ∧ s.heap.get? l = some { cls := .type "list", data := .seq its.toArray n } := by
  obtain ⟨z, its, n, r, e⟩ := I.hok l _ hH
  exact ⟨z, its, n, r, r.length, e⟩

end

section
variable {X : Cx}

noncomputable def rAppend : V → List V → Hp → VK → Prop := fun x vs H Q => ∃ l xs y, x = .ref l ∧ vs = [y] ∧ H l = some (.lst xs) ∧ xs.length < sizeLine ∧ Q .non (upd H l (.lst (xs ++ [y])))
theorem mt_append : MtM X "list.append" rAppend := by
  intro pins s σ H x vs v us Q I rx rv h
  obtain ⟨l, xs, y, rfl, rfl, hH, hz, q⟩ := h
  cases rx
  obtain ⟨u, rfl, ru⟩ := rv.one
  obtain ⟨z, its, n, r, hl, e⟩ := I.lstM hH
  refine call_meets F.slot_list_append ⟨_, e, rfl⟩ F.entry_list_append (F.args_list_append_2 _ _) (PySem.list_append l its.toArray n u (by rw [List.size_toArray]; omega)) ⟨e, ?_⟩
  refine ⟨.non, _, I.lset (its' := its ++ [u]) hH e (by simp) (r.append (.cons ru .nil)) ?_, rfl, q⟩
  rw [List.length_append, List.length_singleton]
  omega

noncomputable def rReverse : V → List V → Hp → VK → Prop := fun x vs H Q => ∃ l xs, x = .ref l ∧ vs = [] ∧ H l = some (.lst xs) ∧ Q .non (upd H l (.lst xs.reverse))
theorem mt_reverse : MtM X "list.reverse" rReverse := by
  intro pins s σ H x vs v us Q I rx rv h
  obtain ⟨l, xs, rfl, rfl, hH, q⟩ := h
  cases rx
  have hus := rv.zero
  subst hus
  obtain ⟨z, its, n, r, hl, e⟩ := I.lstM hH
  refine call_meets F.slot_list_reverse ⟨_, e, rfl⟩ F.entry_list_reverse (F.args_list_reverse_1 _) (AutoSeq1.list_reverse_list_0 l its.toArray n (by rw [List.size_toArray]; omega)) ⟨e, ?_⟩
  refine ⟨.non, _, I.lset (its' := its.reverse) hH e (by simp) r.reverse ?_, rfl, q⟩
  rw [List.length_reverse]
  omega

noncomputable def rCat : R2 := fun x y H Q => ∃ l b xs zs, x = .ref l ∧ y = .ref b ∧ H l = some (.lst xs) ∧ H b = some (.lst zs) ∧ xs.length + zs.length ≤ sizeLine ∧ ∀ p, H p = none → Q (.ref p) (upd H p (.lst (xs ++ zs)))
theorem op_cat : OpR X (binaryOp .Add) rCat := by
  intro pins s σ H x y v u Q I rx ry h
  obtain ⟨l, b, xs, zs, rfl, rfl, hH, hB, hz, q⟩ := h
  cases rx
  cases ry
  obtain ⟨z, its, n, r, hl, e⟩ := I.lstM hH
  obtain ⟨z2, its2, n2, r2, hl2, e2⟩ := I.lstM hB
  refine PySem.P.add_list e e2 ?_ (by rw [List.size_toArray, List.size_toArray]; omega)
  have ea : its.toArray ++ its2.toArray = (its ++ its2).toArray := by simp
  rw [ea]
  exact ⟨.ref _, _, I.lnew (t' := s.toks) (r.append r2) (by rw [List.length_append]; omega), rfl, q _ I.fresh⟩
end

section
variable {prog : Program} {w : World} {A : Around} {E : Value → Shared → Prop} {s : Shared}
end

section
variable {X : Cx}
end
end L2

namespace Att
open PySem PySem.W PySem.Calls PyProof.Rows

theorem ints_of_wellAll {P : Params} {h : Heap} : ∀ (ns : List Int) (vs : List Value), WellAll P h vs (ns.map WData.int) → IntsAre vs ns := by
  intro ns
  induction ns with
  | nil =>
    intro vs w
    rw [List.map_nil] at w
    cases w
    exact .nil
  | cons n ns ih =>
    intro vs w
    rw [List.map_cons] at w
    cases w with
    | cons a b =>
      cases a
      exact .cons _ _ (ih _ b)

theorem script_of {l : OpenLaw} {n : Nat} (hn : l.most = some n) {P : Params} {h : Heap} {args : List WData} {vals : List Value}
    (hpre : l.row.toRowW.claim.pre args = true) (hwl : WellAll P h vals args) :
    ∃ a vs ns, vals = [Value.ref a] ∧ args = [WData.list (ns.map WData.int)] ∧ h.get? a = some { cls := .type "list", data := .seq vs.toArray } ∧ IntsAre vs ns ∧ ns.length ≤ n := by
  have hsh : WShape.hasAll [] args [.list .int] = true := (pre_splitW hpre).1
  have hc : l.pre.holds [] { args := args } = true := (pre_splitW hpre).2
  obtain ⟨d, r, rfl, h1, h2⟩ := hasAllW_cons hsh
  obtain rfl := hasAllW_nil h2
  obtain ⟨xs, rfl, h3⟩ := hasW_list h1
  obtain ⟨ns, rfl⟩ := items_int h3
  have hlen : ns.length ≤ n := by
    unfold OpenLaw.pre at hc
    have h4 : (WTm.not (.lt (.lit (.int (n : Int))) (.len (.arg 0)))).holds [] { args := [.list (ns.map .int)] } = true := by
      have h4 := (holds_andW hc).1
      rw [hn] at h4
      exact h4
    have h5 := condW_of h4 (w_not (w_lt w_lit (w_len_list (w_arg rfl))))
    rw [List.length_map] at h5
    refine Nat.le_of_not_lt fun q => ?_
    have q' : (n : Int) < ((ns.length : Nat) : Int) := by omega
    first
      | (rw [decide_eq_true q'] at h5; exact absurd h5 (by decide))
      | (simp at h5; omega)
  cases hwl with
  | cons w1 w2 =>
    cases w2
    cases w1 with
    | list ho hall => exact ⟨_, _, ns, rfl, rfl, ho, ints_of_wellAll ns _ hall, hlen⟩

theorem post_true (l : OpenLaw) (args : List WData) : l.row.toRowW.claim.post args (.bool true) args = true :=
  postW_of (r := l.row.toRowW) (X := (true == true))
    (show WShape.has [] (.bool true) .bool = true by first | rfl | decide | simp [WShape.has, WShape.arms, WShape.armsAll])
    (show (WTm.eq .res (.lit (.bool true))).value [] { args := args, res := some (.bool true), after := args } = some (.bool (true == true)) from w_eq_bool (w_res rfl) w_lit) rfl

theorem attach_call {l : OpenLaw} {n : Nat} {q : Program} {loose : List Str} {XP : (Str → Option Value) → Heap → Prop} {YP : World → Heap → Prop} {d : DefRec}
    (hn : l.most = some n) (hdf : d.params.defaults = [])
    (call : ∀ (w : World) (s₀ s₁ : Shared) (mg mb : Str → Option Value) (fa : Addr) (o : Obj) (pm cd doc : Value) (a : Addr) (vs : List Value) (ns : List Int),
      Ground q loose [] XP w s₀ mg mb s₁.heap → YP w s₁.heap →
      s₁.heap.get? fa = some o → o.data = .func (docDef d.name d.params d.body d.scope pm cd doc) → s₁.heap.CodeRec cd d.name → mg d.name = some (.ref fa) →
      s₁.heap.get? a = some { cls := .type "list", data := .seq vs.toArray } → IntsAre vs ns → ns.length ≤ n → s₁.gens = #[] →
      codeAny (model l.prog w) callerA (.call (.ref fa) ⟨[.ref a], []⟩) (fun r s' => r = .ok (.ret (.bool true)) ∧ OldK s₁.heap s'.heap ∧ s'.os = s₁.os ∧ AllBare s'.gens) s₁) :
    WalkO q loose XP YP l.row.toRowW d [] (fun f vs => PySem.call f vs) := by
  intro w s₀ s₁ mg mb G Y fa o pm cd doc dV kV ho hd hcd hD hmg hg args vals as hpre hlay hrd hwl hlo
  obtain rfl : dV = .none := Dflts.none hD hdf
  obtain rfl : kV = .none := Dflts.noKw hD
  obtain ⟨a, vs, ns, rfl, rfl, hobj, hints, hlen⟩ := script_of hn hpre hwl
  refine enter_call (codeAny_mono (call w s₀ s₁ mg mb fa o pm cd doc a vs ns G Y ho (fd_plain hd) hcd hmg hobj hints hlen hg) fun r s' hq => ?_)
  obtain ⟨rfl, h2, h3, h4⟩ := hq
  exact ⟨.inl ⟨.bool true, .bool true, [], rfl, fun _ => rfl, .bool true, post_true l _, fun _ => ⟨List.Pairwise.nil, fun _ hm => (nomatch hm)⟩⟩, h2, h3, h4⟩

section
variable {prog : Program} {w : World} {A : Around} {E : Value → Shared → Prop} {s : Shared} {K : Frag}

noncomputable def ledger (h : Heap) (L d : Addr) : List (Addr × Obj) := (List.range h.objs.size).filterMap fun a => if a = L ∨ a = d then none else (h.get? a).map fun o => (a, o)
end
end Att

namespace L2
open PySem PySem.Spec PyProof.Rows

theorem vals_ints : ∀ {vs : List Value} {ns : List Int}, IntsAre vs ns → Vals (ns.map V.int) vs
  | _, _, .nil => .nil
  | _, _, .cons n t h => .cons ⟨t, rfl⟩ (vals_ints h)

noncomputable def Only (H : Hp) : Prop := ∀ b, H b = none ∨ ∃ o xs, H b = some (.frz o (.lst xs))

theorem law_call {P : Program} {w : World} {K : PySem.W.Frag} {mg mb : Str → Option Value} {CX : CXT} {k : Nat} {fa a : Addr} {fd : FuncData} {x : Str} {sp : Sp} {s₁ : Shared} {vs : List Value} {ns : List Int}
    (KX : K.In s₁.heap) (hns : s₁.heap.Ns mainGlobals mg) (hb : s₁.heap.Ns builtinsNs mb) (hbb : ∀ x : Str, x ≠ "__name__" → mb x = bootBuiltins x) (hlim : s₁.heap.NoLimit) (hg : s₁.gens = #[])
    (ha : s₁.heap.get? a = some { cls := .type "list", data := .seq vs.toArray }) (hi : IntsAre vs ns) (hl : ns.length ≤ sizeLine) (hr : Room k callerA)
    (F : ∀ base : Heap, K.In base → base.Ns mainGlobals mg → FnOk P w K mg base CX k fa fd [x] sp) (hbind : ∀ (s : Shared) (u : Value), BindsTo s fd ⟨[u], []⟩ [(x, u)])
    (hsp : ∀ H : Hp, Only H → SqL K H a (ns.map V.int) → sp [.ref a] H (fun v _ => v = .bl true) fun _ _ _ => False)
    (hCX : ∀ H e s', CX [] H s₁ (fun _ _ _ => False) e s' → False) :
    codeAny (model P w) callerA (.call (.ref fa) ⟨[.ref a], []⟩) (fun r s' => r = .ok (.ret (.bool true)) ∧ OldK s₁.heap s'.heap ∧ s'.os = s₁.os ∧ AllBare s'.gens) s₁ := by
  have rv := vals_ints hi
  have lenV := hi.length
  -- from an abstract heap in which nothing but the script may be tracked
  have core : ∀ H : Hp, Only H → SqL K H a (ns.map V.int) → HOk P w H s₁.heap → (∀ b, H b ≠ none → b = a) → (H a ≠ none → K.lookup a = none) →
      codeAny (model P w) callerA (.call (.ref fa) ⟨[.ref a], []⟩) (fun r s' => r = .ok (.ret (.bool true)) ∧ OldK s₁.heap s'.heap ∧ s'.os = s₁.os ∧ AllBare s'.gens) s₁ := by
    intro H hO hS hok hA hK
    have base_of : ∀ {b : Addr} {o : Obj}, s₁.heap.get? b = some o → H b = none → (hidT s₁.heap H).get? b = some o := fun e n => hidT_get e n
    have noA : ∀ {b : Addr} {o : Obj} {es : Array DictEntry} {ep : Nat}, s₁.heap.get? b = some o → o.data = .dict es ep → H b = none := fun {b o es ep} e d => by
      cases q : H b with
      | none => rfl
      | some u =>
        have e' : b = a := hA b (by rw [q]; simp)
        subst e'
        rw [ha] at e; cases e
        have d' : Data.seq vs.toArray _ = Data.dict es ep := d
        cases d'
    have nsK : ∀ {b : Addr} {m : Str → Option Value}, s₁.heap.Ns b m → (hidT s₁.heap H).Ns b m := fun {b m} ⟨o, es, ep, e, d, r⟩ => ⟨o, es, ep, base_of e (noA e d), d, r⟩
    have hKb : K.In (hidT s₁.heap H) := fun b o e => base_of (KX b o e) (by
      cases q : H b with
      | none => rfl
      | some u =>
        have e' : b = a := hA b (by rw [q]; simp)
        subst e'
        rw [hK (by rw [q]; simp)] at e; cases e)
    have hM : Mod K mg (hidT s₁.heap H) := ⟨hKb, nsK hns, ⟨mb, nsK hb, hbb⟩, let ⟨mc, h1, h2⟩ := hlim; ⟨mc, nsK h1, h2⟩⟩
    have e0 : Env0 P w K mg (hidT s₁.heap H) callerA [] s₁ H := ⟨rfl, hM, fun b o e => of_hidT e, Nat.le_of_eq (hidT_size _ _), trivial, fun b hb => absurd (show b ∈ ([] : List Addr) from hb) (by simp), hok, .of_eq hg⟩
    refine codeAny_mono ((F _ hKb (nsK hns)).run callerA [] s₁ H ⟨[.ref a], []⟩ [.ref a] [.ref a] _ _ hr e0 (hbind s₁ (.ref a)) (.cons rfl .nil) (hsp H hO hS)) fun r s' h => ?_
    cases r with
    | error e => exact (hCX H e s' h).elim
    | ok fl =>
      cases fl with
      | next => exact False.elim h
      | brk => exact False.elim h
      | cont => exact False.elim h
      | ret u =>
        obtain ⟨v, H', os, bare, un, hok', r', q⟩ := h
        have q' : v = .bl true := q
        subst q'
        obtain rfl : u = Value.bool true := r'
        refine ⟨rfl, OldK.of_keep fun b o e => ?_, os, bare⟩
        cases q : H b with
        | none => exact un.keep b o e q (by intro z; exact absurd (show b ∈ ([] : List Addr) from z) (by simp)) (by simp)
        | some u =>
          rcases hO b with z | ⟨ob, xs, z⟩
          · rw [q] at z; cases z
          · have z2 := un.frzs b ob _ z
            obtain ⟨e1, _⟩ := hok b _ z
            obtain ⟨e2, _⟩ := hok' b _ z2
            rw [e] at e1; cases e1
            exact e2
  cases hk : K.lookup a with
  | some o =>
    -- the script is one of the module's own objects
    have e := KX a o hk
    rw [ha] at e
    cases e
    refine core (fun _ => none) (fun _ => .inl rfl) (.inr ⟨_, vs.toArray, _, hk, rfl, rfl, rfl, by rw [List.size_toArray, lenV]; exact hl, by simpa using rv⟩) (fun b u z => by have z' : (none : Option HO) = some u := z; cases z') (fun b z => absurd rfl z) fun z => absurd rfl z
  | none =>
    refine core (fun b => if b = a then some (.frz { cls := .type "list", data := .seq vs.toArray } (.lst (ns.map V.int))) else none) (fun b => ?_) (.inl (.inr ⟨{ cls := .type "list", data := .seq vs.toArray }, if_pos rfl⟩)) (fun b u z => ?_) (fun b z => ?_) fun _ => hk
    · by_cases hb : b = a
      · exact .inr ⟨_, _, if_pos hb⟩
      · exact .inl (if_neg hb)
    · by_cases hb : b = a
      · have z' := (if_pos hb).symm.trans z
        cases z'
        subst hb
        exact ⟨ha, by rw [List.length_map]; exact hl, vs, _, rv, ha⟩
      · have z' := (if_neg hb).symm.trans z
        cases z'
    · by_cases hb : b = a
      · exact hb
      · exact absurd (if_neg hb) z
end L2

namespace L2
open PySem PySem.Spec PyProof.Rows

noncomputable abbrev KOf {K : PySem.W.Frag} {h : Heap} (_ : K.In h) : PySem.W.Frag := K

theorem walk_of {l : PySem.W.OpenLaw} {n k : Nat} {q : Program} {loose : List Str} {XP : (Str → Option Value) → Heap → Prop} {YP : World → Heap → Prop} {d : DefRec} {K : Params → PySem.W.Frag} {CX : World → CXT} {sp : World → Sp} {x : Str}
    (hn : l.most = some n) (hn2 : n ≤ sizeLine) (hdf : d.params.defaults = []) (hr : Room k callerA)
    (hY : ∀ (w : World) (h : Heap), YP w h → (K w.params).In h)
    (F : ∀ (w : World) (mg : Str → Option Value) (fa : Addr) (h : Heap), (K w.params).In h → h.Ns mainGlobals mg → mg d.name = some (.ref fa) →
      ∃ fd : FuncData, (∀ (s : Shared) (u : Value), BindsTo s fd ⟨[u], []⟩ [(x, u)]) ∧
        ∀ base : Heap, (K w.params).In base → base.Ns mainGlobals mg → FnOk l.prog w (K w.params) mg base (CX w) k fa fd [x] (sp w))
    (hsp : ∀ (w : World) (H : Hp) (a : Addr) (ns : List Int), ns.length ≤ n → Only H → SqL (K w.params) H a (ns.map V.int) → sp w [.ref a] H (fun v _ => v = .bl true) fun _ _ _ => False)
    (hCX : ∀ (w : World) (H : Hp) (s : Shared) (e : Value) (s' : Shared), CX w [] H s (fun _ _ _ => False) e s' → False) :
    PySem.W.WalkO q loose XP YP l.row.toRowW d [] (fun f vs => PySem.call f vs) := by
  refine Att.attach_call hn hdf fun w s₀ s₁ mg mb fa o pm cd doc a vs ns G Y ho hd hcd hmg hobj hints hlen hg => ?_
  have KX := hY w _ Y
  obtain ⟨fd, hb, hF⟩ := F w mg fa _ KX G.T.g hmg
  exact law_call KX G.T.g G.T.b G.T.builtins G.T.nolimit hg hobj hints (Nat.le_trans hlen hn2) hr hF hb (fun H hO hS => hsp w H a ns hlen hO hS) fun H e s' => hCX w H s₁ e s'
end L2

/- THE LAST THEOREM (shape; LID, My.* are yours):
   My.Adr: a structure of the addresses that your layer names (classes, functions); My.Txt K t: a structure (Prop) of the equations over K;
   My.txt_mk : {K} {implicit addresses ..} (e1 : nsIn K mainGlobals "law" = some (some (.ref f))) (e2 : K.lookup f = some ⟨oc, od, .func (fnOf "law" "law" params body scope dV kV doc pm an cdv ct), sl⟩) (e3 : codeIn K cdv "law" = true) .. : ∃ t, My.Txt K t

theorem PySem.Challenge.cw_LID_holds : PySem.Challenge.rw_LID.Holds := by
  w_on; o_law
  o_head (PySem.W.kHook Mine.myK [2, 3, 20, 21, 30, 31, 32, 43, 44, 59, 60, 62, 63, 78, 79, 81, 82, 97, 98, 100, 101, 116, 117, 119, 120, 135, 136, 138, 139, 154, 155, 157, 158, 173, 174, 176, 177, 192, 193, 195, 196, 211, 212, 214, 215, 223, 224, 230, 231, 235, 236, 240, 241, 254, 255, 259, 260, 266, 267, 273, 274, 280, 281, 287, 288, 290, 291, 292, 293, 308, 309, 313, 314, 320, 321, 327, 328, 330, 331, 332, 333, 348, 349, 355, 356, 362, 363, 365, 366, 367, 368, 383, 384, 390, 391, 397, 398, 400, 401, 409, 410, 416, 417, 421, 422, 426, 427, 431, 432, 436, 437, 443, 444, 448, 449, 455, 456] (fun _ => by kernel_rfl)); (case hw => w_witness2)
  k_fill
  refine L2.walk_of (l := PySem.Challenge.rw_LID) (n := 63) (k := 40) (x := "script") (CX := fun w => ..) (sp := fun _ => My.sp_law) rfl (by decide) rfl ⟨rfl, by decide, by decide⟩ (fun w h Y => PySem.W.kIn_of Y) ?F ?S ?C
  case F =>
    intro w mg fa h KX G hmg
    have T : ∃ t, My.Txt (L2.KOf KX) t := by
      dsimp only [L2.KOf]                          -- K must stand as «<heap const> w.params» for k_is
      refine' My.txt_mk ?e1 ?e2 ?e3 ..
      (case e1 => PySem.W.k_is)                    -- in the order: a name -> its address -> its object -> its parts
      (case e2 => PySem.W.k_is)
      ..
    obtain ⟨t, T⟩ := T
    have e0 := hmg.symm.trans (PySem.W.mg_of KX G T.law)
    cases e0                                       -- fa is the law's own address
    exact ⟨_, fun s u => .of_eq rfl, fun base kb nb => My.law_fn T kb nb⟩     -- if «.of_eq rfl» comes too early: refine' ⟨_, ?b, fun base kb nb => My.law_fn T kb nb⟩; exact fun s u => .of_eq rfl
  case S => exact fun w H a ns hl hO hS => ..
  case C => exact ..
(the tactic k_is has no namespace: write k_is) -/

namespace L2
open PySem PySem.Spec PyProof.Rows

noncomputable def defArgs (s : Stmt) : Arguments := match s with
  | .FunctionDef _ a _ _ _ _ _ _ _ _ => a
  | _ => { posonlyargs := [], args := [], vararg := none, kwonlyargs := [], kw_defaults := [], kwarg := none, defaults := [] }
noncomputable def defBody (s : Stmt) : List Stmt := match s with
  | .FunctionDef _ _ b _ _ _ _ _ _ _ => b
  | _ => []
noncomputable def defScope (s : Stmt) : Scope := match s with
  | .FunctionDef _ _ _ _ _ _ sc _ _ _ => sc
  | _ => { kind := .function, names := [], isGenerator := false, isCoroutine := false }

noncomputable abbrev CX0 : CXT := fun _ _ _ _ _ _ => False
noncomputable abbrev E0 : XK := fun _ _ _ => False
theorem pass0 {X : Cx} : Passes CX0 X E0 := fun _ _ _ _ _ _ _ h => h.elim

structure Fun (K : PySem.W.Frag) (x qual : Str) (st : Stmt) (f : Addr) (fd : FuncData) : Prop where
  ex : ∃ (oc : Value) (od : Option Addr) (kV doc pm : Value) (an : Option Addr) (cdv ct : Value) (osl : Array (Option Value)),
    fd = PySem.W.fnOf x qual (defArgs st) (defBody st) (defScope st) .none kV doc pm an cdv ct ∧ K.lookup f = some ⟨oc, od, .func fd, osl⟩ ∧ PySem.W.codeIn K cdv qual = true
  kp : PySem.W.keepIn K (.ref f) = true
section
variable {P : Program} {w : World} {K : PySem.W.Frag} {mg : Str → Option Value} {base : Heap}
theorem Fun.ok {x qual : Str} {st : Stmt} {f : Addr} {fd : FuncData} {N ps : List Str} {k : Nat} {sp : Sp} (F : Fun K x qual st f fd) (S : FnScope N ps (defScope st)) (len : ∀ vs H Q E, sp vs H Q E → vs.length = ps.length)
    (hbody : ∀ (cdv : Value) (A : Around) (outer : List Env) (s : Shared) (H : Hp) (vs : List V) (Q : VK) (E : XK), Room k (A.deeper (envOfC qual (defScope st) s.heap.objs.size f cdv)) → sp vs H Q E →
      ∃ t, PSs (cxOf CX0 P w K mg base N qual (defScope st) f cdv A outer s H E).nox (defBody st) t ∧ t { nx := fun _ H' => Q .non H', rt := Q } (start N vs) H) : FnOk P w K mg base CX0 (k + 1) f fd ps sp := by
  obtain ⟨oc, od, kV, doc, pm, an, cdv, ct, osl, rfl, lk, hcd⟩ := F.ex
  refine fn_of lk hcd S len fun A outer s H vs Q E hr hsp => ?_
  obtain ⟨t, h, q⟩ := hbody cdv A outer s H vs Q E hr hsp
  exact ⟨t, h.nox, q⟩
theorem Fun.binds {x qual : Str} {st : Stmt} {f : Addr} {fd : FuncData} {ps : List Str} (F : Fun K x qual st f fd)
    (h : ∀ (kV doc pm : Value) (an : Option Addr) (cdv ct : Value) (us : List Value), us.length = ps.length → bindArgs (PySem.W.fnOf x qual (defArgs st) (defBody st) (defScope st) .none kV doc pm an cdv ct) ⟨us, []⟩ = pure (ps.zip us)) : Binds K fd ps [] := by
  obtain ⟨oc, od, kV, doc, pm, an, cdv, ct, osl, rfl, lk, hcd⟩ := F.ex
  exact .all (h kV doc pm an cdv ct)
theorem fun_mk {x qual : Str} {st : Stmt} {f : Addr} {oc : Value} {od an : Option Addr} {osl : Array (Option Value)} {kV doc pm cdv ct : Value} (l : K.lookup f = some ⟨oc, od, .func (PySem.W.fnOf x qual (defArgs st) (defBody st) (defScope st) .none kV doc pm an cdv ct), osl⟩)
    (c : PySem.W.codeIn K cdv qual = true) (k : PySem.W.keepIn K (.ref f) = true) : Fun K x qual st f (PySem.W.fnOf x qual (defArgs st) (defBody st) (defScope st) .none kV doc pm an cdv ct) := ⟨⟨oc, od, kV, doc, pm, an, cdv, ct, osl, rfl, l, c⟩, k⟩
end
section
variable {X : Cx}
theorem pv (i : Nat) {x : Str} {pos : Pos} (hN : X.N[i]? = some x := by rfl) (hv : Vis X.env.scope x := by first | exact Or.inl rfl | exact Or.inr (Or.inl rfl) | exact Or.inr (Or.inr rfl)) (hd : (x == ("__debug__" : Str)) = false := by decide)
    (hcd : (x == ("__classdict__" : Str)) = false := by decide) : PE X (.Name x pos) (tVar i) := pe_var hN hv hd hcd
end

theorem iteF {A B : Prop} (h : B) : if false = true then A else B := by
  rw [if_neg Bool.false_ne_true]
  exact h
theorem iteT {A B : Prop} (h : A) : if true = true then A else B := by
  rw [if_pos rfl]
  exact h
noncomputable def Same (H H' : Hp) : Prop := ∀ b o, H b = some o → H' b = some o
theorem Same.refl (H : Hp) : Same H H := fun _ _ h => h
theorem Same.trans {H H1 H2 : Hp} (a : Same H H1) (b : Same H1 H2) : Same H H2 := fun c o h => b c o (a c o h)
theorem Same.free {H H' : Hp} (e : Same H H') {l : Addr} (h : H' l = Option.none) : H l = Option.none := by
  cases q : H l with
  | none => rfl
  | some o =>
    rw [e l o q] at h
    cases h
theorem Same.seq {K : PySem.W.Frag} {H H' : Hp} {a : Addr} {xs : List V} (e : Same H H') (h : SqL K H a xs) : SqL K H' a xs := by
  rcases h with (h | ⟨o, h⟩) | h
  · exact .inl (.inl (e _ _ h))
  · exact .inl (.inr ⟨o, e _ _ h⟩)
  · exact .inr h

end L2

namespace L2
open PySem PySem.Spec PyProof.Rows

section
variable {κ : Type} [DecidableEq κ]
noncomputable def valV (kvs : List (κ × V)) (k : κ) : Option V := (kvs.find? fun kv => decide (kv.1 = k)).map (·.2)
noncomputable def putK (kvs : List (κ × V)) (k : κ) (v : V) : List (κ × V) :=
  if (kvs.any fun kv => decide (kv.1 = k)) = true then kvs.map (fun kv => if kv.1 = k then (kv.1, v) else kv) else kvs ++ [(k, v)]
noncomputable def dropK (kvs : List (κ × V)) (k : κ) : List (κ × V) := kvs.filter fun kv => decide (kv.1 ≠ k)

theorem valV_pos {p : κ × V} {r : List (κ × V)} {k : κ} (e : p.1 = k) : valV (p :: r) k = some p.2 := by simp [valV, List.find?_cons, e]
theorem valV_neg {p : κ × V} {r : List (κ × V)} {k : κ} (e : ¬ p.1 = k) : valV (p :: r) k = valV r k := by simp [valV, List.find?_cons, e]
theorem valV_any (k : κ) : ∀ kvs : List (κ × V), (kvs.any fun kv => decide (kv.1 = k)) = (valV kvs k).isSome
  | [] => rfl
  | p :: r => by
    rw [List.any_cons]
    by_cases e : p.1 = k
    · simp only [valV_pos e, decide_eq_true e, Bool.true_or, Option.isSome_some]
    · rw [valV_neg e, decide_eq_false e, Bool.false_or]; exact valV_any k r
theorem valV_map (k j : κ) (y : V) : ∀ kvs : List (κ × V), valV (kvs.map fun kv => if kv.1 = k then (kv.1, y) else kv) j = (valV kvs j).map fun x => if j = k then y else x
  | [] => rfl
  | p :: r => by
    have ih := valV_map k j y r
    rw [List.map_cons]
    by_cases h : p.1 = k
    · rw [if_pos h]
      by_cases e : p.1 = j
      · rw [valV_pos (p := (p.1, y)) e, valV_pos e, Option.map_some, if_pos (e.symm.trans h)]
      · rw [valV_neg (p := (p.1, y)) e, valV_neg e, ih]
    · rw [if_neg h]
      by_cases e : p.1 = j
      · rw [valV_pos (p := p) e, valV_pos e, Option.map_some, if_neg (fun z => h (e.trans z))]
      · rw [valV_neg (p := p) e, valV_neg e, ih]
theorem valV_snoc (k j : κ) (y : V) : ∀ kvs : List (κ × V), valV kvs k = none → valV (kvs ++ [(k, y)]) j = if j = k then some y else valV kvs j
  | [], _ => by
    by_cases e : k = j
    · rw [if_pos e.symm]; exact valV_pos (p := (k, y)) e
    · rw [if_neg (fun z => e z.symm)]; exact valV_neg (p := (k, y)) e
  | p :: r, hn => by
    rw [List.cons_append]
    have hk : ¬ p.1 = k := fun z => by rw [valV_pos z] at hn; cases hn
    rw [valV_neg hk] at hn
    have ih := valV_snoc k j y r hn
    by_cases e : p.1 = j
    · rw [valV_pos e, valV_pos e, if_neg (fun z => hk (e.trans z))]
    · rw [valV_neg e, valV_neg e, ih]
theorem valV_put (kvs : List (κ × V)) (k j : κ) (y : V) : valV (putK kvs k y) j = if j = k then some y else valV kvs j := by
  unfold putK
  by_cases a : (kvs.any fun kv => decide (kv.1 = k)) = true
  · rw [if_pos a, valV_map]
    rw [valV_any] at a
    by_cases e : j = k
    · obtain ⟨x, hx⟩ := Option.isSome_iff_exists.mp a
      rw [if_pos e, e, hx, Option.map_some, if_pos rfl]
    · rw [if_neg e]
      cases valV kvs j with
      | none => rfl
      | some x => rw [Option.map_some, if_neg e]
  · rw [if_neg a]
    refine valV_snoc k j y kvs ?_
    rw [valV_any] at a
    cases q : valV kvs k with
    | none => rfl
    | some x => rw [q] at a; exact (a rfl).elim
theorem length_putK (kvs : List (κ × V)) (k : κ) (v : V) : (putK kvs k v).length ≤ kvs.length + 1 := by
  unfold putK
  split
  · rw [List.length_map]; omega
  · rw [List.length_append, List.length_cons, List.length_nil]; omega
theorem RelO.isSome_eq {o : Option V} {u : Option Value} (r : RelO o u) : o.isSome = u.isSome := by
  cases o with
  | none => cases u with
    | none => rfl
    | some _ => exact (show False from r).elim
  | some _ => cases u with
    | none => exact (show False from r).elim
    | some _ => rfl
theorem RelO.getD {o : Option V} {u : Option Value} {d : V} {d' : Value} (r : RelO o u) (rd : RelV d d') : RelV (o.getD d) (u.getD d') := by
  cases o with
  | none => cases u with
    | none => exact rd
    | some _ => exact (show False from r).elim
  | some _ => cases u with
    | none => exact (show False from r).elim
    | some _ => exact r

theorem KV.val {kvs : List (κ × V)} {vs : List (κ × Value)} (r : KV kvs vs) (k : κ) : RelO (valV kvs k) (valueAt vs k) := by
  unfold KV at r
  induction r with
  | nil => exact True.intro
  | @cons p q ps qs h t ih =>
    obtain ⟨h1, h2⟩ := h
    by_cases e : p.1 = k
    · have e' : q.1 = k := h1.symm.trans e
      have b : valueAt (q :: qs) k = some q.2 := by simp [valueAt, List.find?_cons, e']
      rw [valV_pos e, b]; exact h2
    · have e' : ¬ q.1 = k := fun z => e (h1.trans z)
      have b : valueAt (q :: qs) k = valueAt qs k := by simp [valueAt, List.find?_cons, e']
      rw [valV_neg e, b]; exact ih
theorem KV.any {kvs : List (κ × V)} {vs : List (κ × Value)} (r : KV kvs vs) (k : κ) : (kvs.any fun kv => decide (kv.1 = k)) = vs.any fun kv => decide (kv.1 = k) := by
  unfold KV at r
  induction r with
  | nil => rfl
  | cons h t ih => rw [List.any_cons, List.any_cons, ih, h.1]
theorem KV.repl {kvs : List (κ × V)} {vs : List (κ × Value)} (r : KV kvs vs) (k : κ) {y : V} {u : Value} (ry : RelV y u) :
    KV (kvs.map fun kv => if kv.1 = k then (kv.1, y) else kv) (vs.map fun kv => if kv.1 = k then (kv.1, u) else kv) := by
  unfold KV at r ⊢
  induction r with
  | nil => exact .nil
  | @cons p q ps qs h t ih =>
    rw [List.map_cons, List.map_cons]
    refine .cons ?_ ih
    obtain ⟨h1, h2⟩ := h
    by_cases e : p.1 = k
    · rw [if_pos e, if_pos (h1.symm.trans e)]; exact ⟨h1, ry⟩
    · rw [if_neg e, if_neg (fun z => e (h1.trans z))]; exact ⟨h1, h2⟩
theorem KV.put {kvs : List (κ × V)} {vs : List (κ × Value)} (r : KV kvs vs) (k : κ) {y : V} {u : Value} (ry : RelV y u) : KV (putK kvs k y) (stored vs k u) := by
  unfold putK stored
  rw [r.any k]
  by_cases e : (vs.any fun kv => decide (kv.1 = k)) = true
  · rw [if_pos e, if_pos e]; exact r.repl k ry
  · rw [if_neg e, if_neg e]; exact Paired.snoc r ⟨rfl, ry⟩
theorem KV.drop {kvs : List (κ × V)} {vs : List (κ × Value)} (r : KV kvs vs) (k : κ) : KV (dropK kvs k) (without vs k) := by
  unfold KV at r ⊢
  unfold dropK without
  induction r with
  | nil => exact .nil
  | @cons p q ps qs h t ih =>
    obtain ⟨h1, h2⟩ := h
    rw [List.filter_cons, List.filter_cons]
    by_cases e : p.1 = k
    · have a : ¬ decide (p.1 ≠ k) = true := by simp [e]
      have b : ¬ decide (q.1 ≠ k) = true := by simp [h1.symm.trans e]
      rw [if_neg a, if_neg b]; exact ih
    · have e' : ¬ q.1 = k := fun z => e (h1.trans z)
      have a : decide (p.1 ≠ k) = true := by simp [e]
      have b : decide (q.1 ≠ k) = true := by simp [e']
      rw [if_pos a, if_pos b]; exact .cons ⟨h1, h2⟩ ih
theorem KV.keys {kvs : List (κ × V)} {vs : List (κ × Value)} (r : KV kvs vs) : kvs.map (·.1) = vs.map (·.1) := by
  unfold KV at r
  induction r with
  | nil => rfl
  | cons h t ih => rw [List.map_cons, List.map_cons, ih, h.1]
theorem KV.length {kvs : List (κ × V)} {vs : List (κ × Value)} (r : KV kvs vs) : kvs.length = vs.length := Paired.length r
end


noncomputable abbrev KT (H : Hp) : List (List Key × V) → List (List Key × Addr × Value) → Prop := Paired fun p q => p.1 = q.1 ∧ H q.2.1 = some (.tup (p.1.map kV)) ∧ RelV p.2 q.2.2
theorem KT.val {H : Hp} {kvs : List (List Key × V)} {xs : List (List Key × Addr × Value)} (r : KT H kvs xs) (k : List Key) : RelO (valV kvs k) ((atKey xs k).map (·.2)) := by
  induction r with
  | nil => exact True.intro
  | @cons p q ps qs h t ih =>
    obtain ⟨h1, _, h2⟩ := h
    by_cases e : p.1 = k
    · have e' : q.1 = k := h1.symm.trans e
      have b : atKey (q :: qs) k = some q.2 := by simp [atKey, List.find?_cons, e']
      rw [valV_pos e, b]; exact h2
    · have e' : ¬ q.1 = k := fun z => e (h1.trans z)
      have b : atKey (q :: qs) k = atKey qs k := by simp [atKey, List.find?_cons, e']
      rw [valV_neg e, b]; exact ih
theorem KT.repl {H : Hp} {kvs : List (List Key × V)} {xs : List (List Key × Addr × Value)} (r : KT H kvs xs) (k : List Key) {y : V} {u : Value} (ry : RelV y u) :
    KT H (kvs.map fun kv => if kv.1 = k then (kv.1, y) else kv) (xs.map (putAt k u)) := by
  induction r with
  | nil => exact .nil
  | @cons p q ps qs h t ih =>
    rw [List.map_cons, List.map_cons]
    refine .cons ?_ ih
    obtain ⟨h1, h2, h3⟩ := h
    unfold putAt
    by_cases e : p.1 = k
    · rw [if_pos e, if_pos (h1.symm.trans e)]; exact ⟨h1, h2, ry⟩
    · rw [if_neg e, if_neg (fun z => e (h1.trans z))]; exact ⟨h1, h2, h3⟩
theorem KT.put {H : Hp} {kvs : List (List Key × V)} {xs : List (List Key × Addr × Value)} (r : KT H kvs xs) (k : List Key) {b : Addr} {y : V} {u : Value} (hb : H b = some (.tup (k.map kV))) (ry : RelV y u) :
    KT H (putK kvs k y) (storedH xs k b u) := by
  have e : (kvs.any fun kv => decide (kv.1 = k)) = (atKey xs k).isSome := by
    rw [valV_any, (r.val k).isSome_eq, Option.isSome_map]
  unfold putK storedH
  rw [e]
  by_cases q : (atKey xs k).isSome = true
  · rw [if_pos q, if_pos q]; exact r.repl k ry
  · rw [if_neg q, if_neg q]; exact Paired.snoc r ⟨rfl, hb, ry⟩
theorem KT.keeps {H H' : Hp} {kvs : List (List Key × V)} {xs : List (List Key × Addr × Value)} (r : KT H kvs xs) (ht : ∀ b ys, H b = some (.tup ys) → H' b = some (.tup ys)) : KT H' kvs xs :=
  Paired.mapP r fun _ _ z => ⟨z.1, ht _ _ z.2.1, z.2.2⟩

section
variable {P : Program} {w : World} {H : Hp} {h : Heap} {a : Addr}
end

noncomputable def DGet (H : Hp) (a : Addr) (y : V) (r : Option V) : Prop :=
  (∃ kvs k, Rd H a (.dK kvs) ∧ y = kV k ∧ r = valV kvs k) ∨ ∃ kvs k b, Rd H a (.dT kvs) ∧ y = .ref b ∧ H b = some (.tup (k.map kV)) ∧ r = valV kvs k
noncomputable def DPut (H : Hp) (a : Addr) (y v : V) (H' : Hp) : Prop :=
  (∃ kvs k, H a = some (.dK kvs) ∧ y = kV k ∧ kvs.length < sizeLine ∧ H' = upd H a (.dK (putK kvs k v))) ∨
  ∃ kvs k b, H a = some (.dT kvs) ∧ y = .ref b ∧ H b = some (.tup (k.map kV)) ∧ kvs.length < sizeLine ∧ H' = upd H a (.dT (putK kvs k v))
theorem DGet.k {H : Hp} {a : Addr} {kvs : List (Key × V)} {k : Key} (e : H a = some (.dK kvs)) : DGet H a (kV k) (valV kvs k) := .inl ⟨kvs, k, .inl e, rfl, rfl⟩
theorem DGet.t {H : Hp} {a b : Addr} {kvs : List (List Key × V)} {k : List Key} (e : H a = some (.dT kvs)) (eb : H b = some (.tup (k.map kV))) : DGet H a (.ref b) (valV kvs k) := .inr ⟨kvs, k, b, .inl e, rfl, eb, rfl⟩
theorem DPut.k {H : Hp} {a : Addr} {kvs : List (Key × V)} {k : Key} {v : V} (e : H a = some (.dK kvs)) (hl : kvs.length < sizeLine) : DPut H a (kV k) v (upd H a (.dK (putK kvs k v))) := .inl ⟨kvs, k, e, rfl, hl, rfl⟩
theorem DPut.t {H : Hp} {a b : Addr} {kvs : List (List Key × V)} {k : List Key} {v : V} (e : H a = some (.dT kvs)) (eb : H b = some (.tup (k.map kV))) (hl : kvs.length < sizeLine) :
    DPut H a (.ref b) v (upd H a (.dT (putK kvs k v))) := .inr ⟨kvs, k, b, e, rfl, eb, hl, rfl⟩


section
variable {X : Cx} {pins : List (Addr × Obj)} {σ : St} {H : Hp} {s : Shared} {a : Addr} {y v : V} {u r : Value} {o : Option V} {A : Around} {E : Value → Shared → Prop}

theorem Inv.big (I : Inv X pins σ H s) : sysModules < s.heap.objs.size := by
  have h : mainGlobals < s.heap.objs.size := (I.mod.glob.keeps I.bk).lt
  exact Nat.lt_trans (by decide) h

end

section
variable {X : Cx} {pins : List (Addr × Obj)} {σ : St} {H : Hp} {s : Shared} {a : Addr} {kvs : List (Key × V)} {k : Key} {u : Value} {A : Around} {E : Value → Shared → Prop}
end


section
variable {X : Cx} {o i e value : Expr} {pos pos' tpos : Pos} {td ty tv : TE}
end


section
variable {X : Cx} {pos : Pos}
end

structure M1 (X : Cx) (o : Expr) (m : Str) (apos : Pos) (e : Expr) (cpos : Pos) : Prop where
  base : attributeBase o m X.env (eval o X.env) = eval o X.env
  few : ((backTo cpos (starEach [e] X.env)).all (fun x => !x.1) && (backToKw cpos (keywordEach [] X.env)).all (fun x => x.1.isSome)
    && decide (([e] : List Expr).length + ([] : List Keyword).length + (if ([] : List Keyword).isEmpty then 0 else 1) < 30)) = true
  line : (apos.endLine == cpos.line) = true
  trees : backTo cpos (starEach [e] X.env) = [(false, eval e X.env)]
structure M2 (X : Cx) (o : Expr) (m : Str) (apos : Pos) (e f : Expr) (cpos : Pos) : Prop where
  base : attributeBase o m X.env (eval o X.env) = eval o X.env
  few : ((backTo cpos (starEach [e, f] X.env)).all (fun x => !x.1) && (backToKw cpos (keywordEach [] X.env)).all (fun x => x.1.isSome)
    && decide (([e, f] : List Expr).length + ([] : List Keyword).length + (if ([] : List Keyword).isEmpty then 0 else 1) < 30)) = true
  line : (apos.endLine == cpos.line) = true
  trees : backTo cpos (starEach [e, f] X.env) = [(false, eval e X.env), (false, eval f X.env)]

section
variable {X : Cx} {pins : List (Addr × Obj)} {σ : St} {H : Hp} {s : Shared} {a : Addr} {y d : V} {u r : Value} {o : Option V} {A : Around} {E : Value → Shared → Prop}
end

section
variable {X : Cx} {o e f : Expr} {apos cpos : Pos} {td ty tx : TE}
end

section
variable {X : Cx} {pins : List (Addr × Obj)} {σ : St} {H : Hp} {s : Shared} {a : Addr} {kvs : List (Key × V)} {A : Around} {E : Value → Shared → Prop}
end


section
variable {X : Cx} {pins : List (Addr × Obj)} {σ : St} {H : Hp} {s : Shared} {a : Addr} {y : V} {u : Value} {A : Around} {E : Value → Shared → Prop}
end
end L2

set_option maxHeartbeats 4000000
namespace Mine
open PySem PySem.Builtin PySem.Builtin.Str

theorem strExt {a b : Str} (h : a.cps.toList = b.cps.toList) : a = b := by
  cases a; cases b
  exact congrArg Str.mk (Array.toList_inj.mp h)
theorem strLen (a : Str) : a.length = a.cps.toList.length := by simp [Str.length]
theorem strApp (a b : Str) : (a ++ b).cps.toList = a.cps.toList ++ b.cps.toList := by
  show (a.cps ++ b.cps).toList = _
  simp
noncomputable def inter (c : Nat) : List (List Nat) → List Nat
  | [] => []
  | [x] => x
  | x :: y :: r => x ++ c :: inter c (y :: r)
theorem join_codes (c : Nat) : ∀ ys : List Str, (Str.join ⟨#[c]⟩ ys).cps.toList = inter c (ys.map (·.cps.toList))
  | [] => by simp [Str.join, inter, Str.empty]
  | [x] => rfl
  | x :: y :: r => by
    have ih := join_codes c (y :: r)
    show ((x ++ (⟨#[c]⟩ : Str)) ++ Str.join ⟨#[c]⟩ (y :: r)).cps.toList = _
    rw [strApp, strApp, ih]
    simp [inter]
theorem join_nil_codes : ∀ ys : List Str, (Str.join ⟨#[]⟩ ys).cps.toList = (ys.map (·.cps.toList)).flatten
  | [] => by simp [Str.join, Str.empty]
  | [x] => by simp [Str.join]
  | x :: y :: r => by
    have ih := join_nil_codes (y :: r)
    show ((x ++ (⟨#[]⟩ : Str)) ++ Str.join ⟨#[]⟩ (y :: r)).cps.toList = _
    rw [strApp, strApp, ih]
    simp
theorem cut_once {c : Nat} : ∀ {x y R S : List Nat}, c ∉ x → c ∉ y → (R = [] ∨ ∃ r, R = c :: r) → (S = [] ∨ ∃ r, S = c :: r) → x ++ R = y ++ S → x = y ∧ R = S
  | [], [], R, S, _, _, _, _, h => ⟨rfl, h⟩
  | [], b :: y, R, S, _, hy, hR, _, h => by
    rcases hR with rfl | ⟨r, rfl⟩
    · cases h
    · have e : c = b := (List.cons.inj h).1
      exact absurd (by rw [← e]; exact List.mem_cons_self) hy
  | a :: x, [], R, S, hx, _, _, hS, h => by
    rcases hS with rfl | ⟨r, rfl⟩
    · cases h
    · have e : a = c := (List.cons.inj h).1
      exact absurd (by rw [e]; exact List.mem_cons_self) hx
  | a :: x, b :: y, R, S, hx, hy, hR, hS, h => by
    obtain ⟨e, h'⟩ := List.cons.inj h
    obtain ⟨e2, e3⟩ := cut_once (x := x) (y := y) (fun z => hx (List.mem_cons_of_mem _ z)) (fun z => hy (List.mem_cons_of_mem _ z)) hR hS h'
    exact ⟨by rw [e, e2], e3⟩
theorem inter_tail (c : Nat) (x : List Nat) (r : List (List Nat)) : ∃ R, inter c (x :: r) = x ++ R ∧ (R = [] ∨ ∃ q, R = c :: q) ∧ (R = [] ↔ r = []) ∧ (∀ q, R = c :: q → q = inter c r) := by
  cases r with
  | nil => exact ⟨[], by simp [inter], .inl rfl, by simp, fun q h => nomatch h⟩
  | cons y r => exact ⟨c :: inter c (y :: r), rfl, .inr ⟨_, rfl⟩, by simp, fun q h => (List.cons.inj h).2.symm⟩
theorem inter_inj {c : Nat} : ∀ {xs ys : List (List Nat)}, (∀ x ∈ xs, c ∉ x) → (∀ y ∈ ys, c ∉ y) → xs ≠ [] → ys ≠ [] → inter c xs = inter c ys → xs = ys
  | [], _, _, _, h, _, _ => absurd rfl h
  | _, [], _, _, _, h, _ => absurd rfl h
  | x :: xs, y :: ys, hx, hy, _, _, h => by
    obtain ⟨R, e1, f1, g1, q1⟩ := inter_tail c x xs
    obtain ⟨S, e2, f2, g2, q2⟩ := inter_tail c y ys
    rw [e1, e2] at h
    obtain ⟨a, b⟩ := cut_once (hx x List.mem_cons_self) (hy y List.mem_cons_self) f1 f2 h
    subst a; subst b
    cases xs with
    | nil =>
      have : ys = [] := g2.mp (g1.mpr rfl)
      rw [this]
    | cons x' xs' =>
      have hR : R ≠ [] := fun z => by cases g1.mp z
      have hys : ys ≠ [] := fun z => hR (g2.mpr z)
      rcases f1 with z | ⟨q, z⟩
      · exact absurd z hR
      · have i1 := q1 q z
        have i2 := q2 q z
        rw [inter_inj (fun u hu => hx u (List.mem_cons_of_mem _ hu)) (fun u hu => hy u (List.mem_cons_of_mem _ hu)) (by simp) hys (i1.symm.trans i2)]
theorem map_codes_inj : ∀ {xs ys : List Str}, xs.map (·.cps.toList) = ys.map (·.cps.toList) → xs = ys
  | [], [], _ => rfl
  | [], _ :: _, h => by cases h
  | _ :: _, [], h => by cases h
  | x :: xs, y :: ys, h => by
    obtain ⟨a, b⟩ := List.cons.inj h
    rw [strExt a, map_codes_inj b]
theorem split_ne (x y : Str) : Txt.split x y ≠ [] := by
  unfold Txt.split
  split
  · simp
  · split
    · simp
    · intro h
      have := congrArg List.length h
      rw [length_partsBetween] at this
      simp at this
theorem split_join (c : Nat) (ys : List Str) (h0 : ys ≠ []) (hf : ∀ y ∈ ys, c ∉ y.cps.toList) : Txt.split (Str.join ⟨#[c]⟩ ys) ⟨#[c]⟩ = ys := by
  refine map_codes_inj (inter_inj (c := c) ?_ ?_ ?_ ?_ ?_)
  · intro x hx
    obtain ⟨z, hz, rfl⟩ := List.mem_map.mp hx
    exact StrLaws.split_free _ c z hz
  · intro x hx
    obtain ⟨z, hz, rfl⟩ := List.mem_map.mp hx
    exact hf z hz
  · intro h; exact split_ne _ _ (List.map_eq_nil_iff.mp h)
  · intro h; exact h0 (List.map_eq_nil_iff.mp h)
  · rw [← join_codes, ← join_codes, StrLaws.join_split]
theorem at_iff (x : Str) (c i : Nat) : StrLaws.At x ⟨#[c]⟩ x.length i ↔ x.cps.toList[i]? = some c := by
  unfold StrLaws.At subAt
  have e1 : ((⟨#[c]⟩ : Str)).length = 1 := rfl
  rw [e1]
  constructor
  · rintro ⟨h1, h2⟩
    have h3 : x.cps.extract i (i + 1) = #[c] := by simpa using h2
    have h4 := congrArg Array.toList h3
    rw [Array.toList_extract, List.extract_eq_take_drop] at h4
    have h5 : x.cps.toList[i]? = ((x.cps.toList.drop i).take (i + 1 - i))[0]? := by
      rw [List.getElem?_take, if_pos (by omega), List.getElem?_drop]; simp
    rw [h5, h4]; rfl
  · intro h
    have hlt : i < x.cps.toList.length := (List.getElem?_eq_some_iff.mp h).1
    refine ⟨by rw [strLen]; omega, ?_⟩
    have : x.cps.extract i (i + 1) = #[c] := by
      apply Array.toList_inj.mp
      rw [Array.toList_extract, List.extract_eq_take_drop]
      have e : i + 1 - i = 1 := by omega
      rw [e, List.drop_eq_getElem_cons hlt]
      have : x.cps.toList[i] = c := (List.getElem?_eq_some_iff.mp h).2
      rw [this]; rfl
    rw [this]; simp
theorem last_none {x : Str} {c : Nat} (h : c ∉ x.cps.toList) : lastOccurrence x ⟨#[c]⟩ 0 x.length = none := by
  rcases StrLaws.last_spec x ⟨#[c]⟩ with ⟨e, _⟩ | ⟨i, _, hi, _⟩
  · exact e
  · exact absurd (List.mem_of_getElem? ((at_iff x c i).mp hi)) h
theorem last_some {a b : Str} {c : Nat} (h : c ∉ b.cps.toList) : lastOccurrence (a ++ (⟨#[c]⟩ : Str) ++ b) ⟨#[c]⟩ 0 (a ++ (⟨#[c]⟩ : Str) ++ b).length = some a.length := by
  have hc : (a ++ (⟨#[c]⟩ : Str) ++ b).cps.toList = a.cps.toList ++ c :: b.cps.toList := by rw [strApp, strApp]; simp
  have here : (a ++ (⟨#[c]⟩ : Str) ++ b).cps.toList[a.length]? = some c := by
    rw [hc, strLen, List.getElem?_append_right (Nat.le_refl _)]; simp
  rcases StrLaws.last_spec (a ++ (⟨#[c]⟩ : Str) ++ b) ⟨#[c]⟩ with ⟨_, hn⟩ | ⟨i, e, hi, hn⟩
  · exact absurd ((at_iff _ c _).mpr here) (hn _)
  · rw [e]
    have hi' := (at_iff _ c i).mp hi
    have h1 : ¬ i < a.length := fun z => hn a.length z ((at_iff _ c _).mpr here)
    have h2 : ¬ a.length < i := fun z => by
      rw [hc, strLen] at *
      rw [List.getElem?_append_right (by omega)] at hi'
      obtain ⟨k, hk⟩ : ∃ k, i - a.cps.toList.length = k + 1 := ⟨i - a.cps.toList.length - 1, by omega⟩
      rw [hk] at hi'
      exact h (List.mem_of_getElem? (by simpa using hi'))
    congr 1
    omega
theorem sub_head (a b : Str) : strSub (a ++ b) 0 a.length = a := by
  apply strExt
  unfold strSub
  show ((a ++ b).cps.extract 0 a.length).toList = _
  rw [Array.toList_extract, List.extract_eq_take_drop, strApp, strLen]
  simp
theorem sub_tail (a b : Str) : strSub (a ++ b) a.length (a ++ b).length = b := by
  apply strExt
  unfold strSub
  show ((a ++ b).cps.extract a.length (a ++ b).length).toList = _
  rw [Array.toList_extract, List.extract_eq_take_drop, strApp, strLen, strLen, strApp]
  simp
  exact List.take_of_length_le (by simp)
theorem join_snoc (s : Str) (b : Str) : ∀ xs : List Str, xs ≠ [] → Str.join s (xs ++ [b]) = Str.join s xs ++ s ++ b
  | [], h => absurd rfl h
  | [x], _ => rfl
  | x :: y :: r, _ => by
    have ih := join_snoc s b (y :: r) (by simp)
    show x ++ s ++ Str.join s (y :: r ++ [b]) = (x ++ s ++ Str.join s (y :: r)) ++ s ++ b
    rw [ih]
    apply strExt
    simp only [strApp, List.append_assoc]
end Mine

set_option maxHeartbeats 4000000
namespace Mine
open PySem PySem.Builtin PySem.Builtin.Str
noncomputable def tab8 : List Int := [48271, 1000003, 15485863, 32452843, 49979687, 67867967, 86028121, 104395301]
noncomputable def tab5 : List Int := [179424673, 373587883, 573259391, 776531401, 982451653]
noncomputable def pickA (c k many : Int) : Int := Builtin.bitAnd (c / 2 ^ (1 + 10 * k).toNat) 1023 % many
noncomputable def one1 (c k : Int) : Int := (c / 2 % 2305843009213693951 + 1) * (tab8.getD (k % 8).toNat 0 * tab5.getD (k / 8).toNat 0) % 2305843009213693951
noncomputable def one2 (c k : Int) : Int := one1 c k * one1 c k % 1000000000039
noncomputable def pickB (c k many : Int) : Int := (one2 c k + k + 1) * (one2 c k / 10007 + 48271) % 67280421310721 / 31 % many
noncomputable def pick (c k many : Int) : Int := if c % 2 = 1 ∧ 0 < c / 2 ^ (400 : Int).toNat then pickA c k many else pickB c k many
theorem pick_ge (c k : Int) {m : Int} (h : 0 < m) : 0 ≤ pick c k m := by
  unfold pick; split
  · exact Int.emod_nonneg _ (by omega)
  · exact Int.emod_nonneg _ (by omega)
theorem pick_lt (c k : Int) {m : Int} (h : 0 < m) : pick c k m < m := by
  unfold pick; split
  · exact Int.emod_lt_of_pos _ h
  · exact Int.emod_lt_of_pos _ h
theorem one1_ge (c k : Int) : 0 ≤ one1 c k := Int.emod_nonneg _ (by decide)
theorem one1_lt (c k : Int) : one1 c k < 2305843009213693951 := Int.emod_lt_of_pos _ (by decide)
theorem one2_ge (c k : Int) : 0 ≤ one2 c k := Int.emod_nonneg _ (by decide)
theorem one2_lt (c k : Int) : one2 c k < 1000000000039 := Int.emod_lt_of_pos _ (by decide)
theorem tab8_at {k : Int} (h0 : 0 ≤ k) (h1 : k < 8) : tab8[k.toNat]? = some (tab8.getD k.toNat 0) ∧ 0 < tab8.getD k.toNat 0 ∧ tab8.getD k.toNat 0 < 1000000000 := by
  have : ∀ n : Fin 8, tab8[n.val]? = some (tab8.getD n.val 0) ∧ 0 < tab8.getD n.val 0 ∧ tab8.getD n.val 0 < 1000000000 := by decide
  exact this ⟨k.toNat, by omega⟩
theorem tab5_at {k : Int} (h0 : 0 ≤ k) (h1 : k < 5) : tab5[k.toNat]? = some (tab5.getD k.toNat 0) ∧ 0 < tab5.getD k.toNat 0 ∧ tab5.getD k.toNat 0 < 1000000000 := by
  have : ∀ n : Fin 5, tab5[n.val]? = some (tab5.getD n.val 0) ∧ 0 < tab5.getD n.val 0 ∧ tab5.getD n.val 0 < 1000000000 := by decide
  exact this ⟨k.toNat, by omega⟩
theorem mul_small {a b : Int} (ha : 0 < a) (ha' : a < 1000000000) (hb : 0 < b) (hb' : b < 1000000000) : 0 < a * b ∧ a * b < 1000000000000000000 := by
  have h1 := Int.mul_pos ha hb
  have h2 : a * b ≤ 1000000000 * b := Int.mul_le_mul_of_nonneg_right (by omega) (by omega)
  exact ⟨h1, by omega⟩
noncomputable def cell (ns : List Int) (k : Int) : Int := if k < (ns.length : Int) then Builtin.bitAnd (ns.getD k.toNat 0) (1 * 2 ^ (16000 : Int).toNat - 1) else 0
noncomputable def subA (c j : Int) : Int := Builtin.bitOr (c / 2 ^ (480 * j).toNat) 1
noncomputable def subB (c j : Int) : Int := (c / 2 / (j + 1) + 104729 * j) * 2
noncomputable def sub (c j : Int) : Int := if c % 2 = 1 ∧ 0 < c / 2 ^ (480 * j + 400).toNat then subA c j else subB c j
noncomputable def number (c far : Int) : Int := if c % 2 = 1 ∧ 0 < c / 2 ^ (400 : Int).toNat then c / 2 ^ (400 : Int).toNat % far else c / 2 % far
noncomputable def letter (c j : Int) : Nat := 97 + (pick c (31 + j) 26).toNat
noncomputable def nameLen (c : Int) : Nat := (1 + pick c 30 8).toNat
noncomputable def nameCodes (c : Int) : List Nat := (List.range (nameLen c)).map fun (j : Nat) => letter c (j : Int)
noncomputable def name (c : Int) : Str := ⟨(nameCodes c).toArray⟩
structure IsNm (x : Str) : Prop where
  lo : 1 ≤ x.length
  hi : x.length ≤ 8
  ok : ∀ n ∈ x.cps.toList, 97 ≤ n ∧ n ≤ 122
theorem IsNm.nodot {x : Str} (h : IsNm x) : 46 ∉ x.cps.toList := fun z => by have := h.ok 46 z; omega
noncomputable def letters : Str := "abcdefghijklmnopqrstuvwxyz"
theorem letters_at {k : Int} (h0 : 0 ≤ k) (h1 : k < 26) : letters.cps.toList[k.toNat]? = some (97 + k.toNat) := by
  have : ∀ n : Fin 26, letters.cps.toList[n.val]? = some (97 + n.val) := by decide +kernel
  exact this ⟨k.toNat, by omega⟩
theorem dot_eq : (("." : Str)) = ⟨#[46]⟩ := by decide +kernel
theorem empty_eq : (("" : Str)) = ⟨#[]⟩ := by decide +kernel
noncomputable def dotted (ys : List Str) : Str := Txt.join ("." : Str) ys
theorem dotted_join (ys : List Str) : dotted ys = Str.join ⟨#[46]⟩ ys := by
  unfold dotted
  rw [dot_eq]
  exact StrLaws.glued_eq_join _ ys
theorem dotted_split (ys : List Str) (h0 : ys ≠ []) (hn : ∀ y ∈ ys, IsNm y) : Txt.split (dotted ys) ("." : Str) = ys := by
  rw [dotted_join, dot_eq]
  exact split_join 46 ys h0 fun y hy => (hn y hy).nodot
theorem rpart_one (y : Str) (h : IsNm y) : Txt.rpartition y ("." : Str) = (Str.empty, Str.empty, y) := by
  unfold Txt.rpartition
  rw [dot_eq, last_none h.nodot]
theorem rpart_more (xs : List Str) (b : Str) (h0 : xs ≠ []) (h : IsNm b) : Txt.rpartition (dotted (xs ++ [b])) ("." : Str) = (dotted xs, (".": Str), b) := by
  unfold Txt.rpartition
  rw [dotted_join, dotted_join, dot_eq, join_snoc _ _ _ h0, last_some h.nodot]
  show (strSub (Str.join ⟨#[46]⟩ xs ++ (⟨#[46]⟩ : Str) ++ b) 0 (Str.join ⟨#[46]⟩ xs).length, _, strSub _ _ _) = _
  have e1 : strSub (Str.join ⟨#[46]⟩ xs ++ (⟨#[46]⟩ : Str) ++ b) 0 (Str.join ⟨#[46]⟩ xs).length = Str.join ⟨#[46]⟩ xs := by
    have : Str.join ⟨#[46]⟩ xs ++ (⟨#[46]⟩ : Str) ++ b = Str.join ⟨#[46]⟩ xs ++ ((⟨#[46]⟩ : Str) ++ b) := strExt (by simp only [strApp, List.append_assoc])
    rw [this]; exact sub_head _ _
  have e2 : strSub (Str.join ⟨#[46]⟩ xs ++ (⟨#[46]⟩ : Str) ++ b) ((Str.join ⟨#[46]⟩ xs).length + (⟨#[46]⟩ : Str).length) (Str.join ⟨#[46]⟩ xs ++ (⟨#[46]⟩ : Str) ++ b).length = b := by
    have l1 : (Str.join ⟨#[46]⟩ xs).length + (⟨#[46]⟩ : Str).length = (Str.join ⟨#[46]⟩ xs ++ (⟨#[46]⟩ : Str)).length := by rw [strLen, strLen, strLen, strApp, List.length_append]
    rw [l1]; exact sub_tail _ _
  rw [e1, e2]
theorem sum_le {ys : List Str} {n : Nat} (h : ∀ y ∈ ys, y.length ≤ n) : (ys.map (·.length)).sum ≤ ys.length * n := by
  induction ys with
  | nil => simp
  | cons y r ih =>
    have h1 := h y List.mem_cons_self
    have h2 := ih fun z hz => h z (List.mem_cons_of_mem _ hz)
    simp only [List.map_cons, List.sum_cons, List.length_cons, Nat.add_mul, Nat.one_mul]
    omega
theorem dotted_len (ys : List Str) : (dotted ys).length ≤ (ys.map (·.length)).sum + ys.length := by
  rw [dotted_join]
  have := StrLaws.join_length_le ⟨#[46]⟩ ys
  have e : (⟨#[46]⟩ : Str).length = 1 := rfl
  rw [e] at this
  omega
end Mine

set_option maxHeartbeats 4000000
namespace L2
open PySem PySem.Spec PyProof.Rows

section
variable {X : Cx}
noncomputable def rInst (K : PySem.W.Frag) : List V → Hp → VK → Prop := fun xs H Q => ∃ x t n b, xs = [x, .ty n] ∧ TyOf K H x t ∧ PySem.W.kitOne K t (.type n) = some b ∧ Q (.bl b) H
theorem call_inst : CallR X (.builtin "isinstance") (rInst X.K) := by
  intro pins s σ H xs us Q I r h
  obtain ⟨x, t, n, b, rfl, ty, e, q⟩ := h
  obtain ⟨u, u2, rfl, rx, ry⟩ := vals2 r
  cases (show u2 = Value.type n from ry)
  exact isinst_ok I rx ty e fun tk => ⟨.bl b, H, I.tok tk, rfl, q⟩
theorem kit_same {K : PySem.W.Frag} {n : String} : PySem.W.kitOne K (.type n) (.type n) = some true := by
  unfold PySem.W.kitOne
  rw [if_pos (by simp)]

theorem strs_of {ys : List Str} : ∀ {us : List Value}, Vals (ys.map V.str) us → StrsAre us ys := by
  induction ys with
  | nil => intro us r; rw [List.map_nil] at r; cases r; exact .nil
  | cons y ys ih =>
    intro us r
    rw [List.map_cons] at r
    cases r with
    | cons r1 r2 =>
      obtain ⟨t, e⟩ := r1
      subst e
      exact .cons y t (ih r2)
theorem vals_strs : ∀ (l : List (Str × Tok)), Vals ((l.map (·.1)).map V.str) (strValues l)
  | [] => .nil
  | (y, t) :: l => .cons ⟨t, rfl⟩ (vals_strs l)
noncomputable def rJoin (K : PySem.W.Frag) : V → List V → Hp → VK → Prop := fun x vs H Q => ∃ sep p ys, x = .str sep ∧ vs = [.ref p] ∧ (SqL K H p (ys.map V.str) ∨ SqT K H p (ys.map V.str)) ∧
  (ys.map (·.length)).sum + ys.length * sep.length ≤ 16777216 ∧ Q (.str (Txt.join sep ys)) H
theorem mt_join : MtR X "str.join" (rJoin X.K) := by
  intro pins s σ H x vs v us Q I rx rv h
  obtain ⟨sep, p, ys, rfl, rfl, hq, hz, q⟩ := h
  obtain ⟨t, rfl⟩ := rx
  obtain ⟨u, rfl, ru⟩ := vals1 rv
  cases (show u = Value.ref p from ru)
  rcases hq with hq | hq
  · obtain ⟨its, r, pl, _⟩ := I.list hq
    exact join_list pl.isList (by simpa using strs_of r) hz fun t' k => ⟨.str _, H, I.tok k, ⟨t', rfl⟩, q⟩
  · obtain ⟨its, r, pl, _⟩ := I.tuple hq
    exact join_tuple pl (by simpa using strs_of r) hz fun t' k => ⟨.str _, H, I.tok k, ⟨t', rfl⟩, q⟩
noncomputable def rSplit : V → List V → Hp → VK → Prop := fun x vs H Q => ∃ z sep, x = .str z ∧ vs = [.str sep] ∧ (sep.length == 0) = false ∧ z.length + 2 ≤ sizeLine ∧
  ∀ p, H p = none → Q (.ref p) (upd H p (.lst ((Txt.split z sep).map V.str)))
theorem split_few (z sep : Str) (h : z.length + 2 ≤ sizeLine) : (Txt.split z sep).length ≤ sizeLine := by
  unfold Txt.split
  split
  · simp; omega
  · split
    · simp; omega
    · have e1 := StrLaws.occ_length_le z sep 0 z.length (z.length + 1)
      rw [length_partsBetween]; omega
theorem mt_split : MtR X "str.split" rSplit := by
  intro pins s σ H x vs v us Q I rx rv h
  obtain ⟨z, sep, rfl, rfl, hy, hz, q⟩ := h
  obtain ⟨t, rfl⟩ := rx
  obtain ⟨u, rfl, ru⟩ := vals1 rv
  obtain ⟨t2, rfl⟩ := ru
  have fin : ∀ (l : List (Str × Tok)) (k : Nat), l.map (·.1) = Txt.split z sep →
      EP X pins σ Q (.ref s.heap.objs.size) { s with heap := s.heap.push { cls := .type "list", data := .seq (strValues l).toArray }, toks := k } := fun l k e => by
    have hv := vals_strs l
    rw [e] at hv
    exact ⟨.ref s.heap.objs.size, _, I.lnew hv (by rw [List.length_map]; exact split_few z sep hz), rfl, q _ I.fresh⟩
  have few : (Builtin.Str.partsBetween z (Builtin.Str.occurrences z sep 0 z.length (z.length + 1)) sep.length).length ≤ sizeLine := by
    have e1 := StrLaws.occ_length_le z sep 0 z.length (z.length + 1)
    rw [length_partsBetween]; omega
  cases h1 : (decide (z.length < sep.length) || decide (Builtin.Str.strKind z < Builtin.Str.strKind sep))
  · cases hf : (Builtin.Str.occurrences z sep 0 z.length (z.length + 1)).isEmpty
    · refine call_meets F.slot_str_split (typeIs_str _ _ _) F.entry_str_split (F.args_str_split_2 _ _) (meets_str_split_sep z sep t t2 h1 hy hf (by omega) few) ?_
      rw [strsFrom_eq]
      exact fin (numbered s.toks _) _ ((numbered_texts _ _).trans (by unfold Txt.split; rw [if_neg (by rw [h1]; exact Bool.false_ne_true), if_neg (by rw [hf]; exact Bool.false_ne_true)]))
    · refine call_meets F.slot_str_split (typeIs_str _ _ _) F.entry_str_split (F.args_str_split_2 _ _) (meets_str_split_not_found z sep t t2 h1 hy hf) ?_
      exact fin [(z, t)] s.toks (by unfold Txt.split; rw [if_neg (by rw [h1]; exact Bool.false_ne_true), if_pos hf] <;> rfl)
  · refine call_meets F.slot_str_split (typeIs_str _ _ _) F.entry_str_split (F.args_str_split_2 _ _) (meets_str_split_cannot_occur z sep t t2 h1) ?_
    exact fin [(z, t)] s.toks (by unfold Txt.split; rw [if_pos h1] <;> rfl)
noncomputable def rRpart : V → List V → Hp → VK → Prop := fun x vs H Q => ∃ z sep, x = .str z ∧ vs = [.str sep] ∧ (sep.length == 0) = false ∧ z.length ≤ sizeLine ∧
  ∀ p, H p = none → Q (.ref p) (upd H p (.tup [.str (Txt.rpartition z sep).1, .str (Txt.rpartition z sep).2.1, .str (Txt.rpartition z sep).2.2]))
theorem Inv.tnew {pins : List (Addr × Obj)} {σ : St} {H : Hp} {s : Shared} {ys : List V} {its : List Value} {t' : Nat} (I : Inv X pins σ H s) (hv : Vals ys its) (hz : ys.length ≤ sizeLine) :
    Inv X pins σ (upd H s.heap.objs.size (.tup ys)) { s with heap := s.heap.push { cls := .type "tuple", data := .seq its.toArray }, toks := t' } :=
  I.laid (fun b o e => Heap.get?_push_of_some _ e) (Nat.le_refl _) (show ObjOk X.prog X.w _ _ _ (.tup ys) from ⟨hz, its, hv, IsTup.new _ _⟩)
theorem vals_three (a b c : Str) (t u v : Tok) : Vals [.str a, .str b, .str c] [.str a t, .str b u, .str c v] := .cons ⟨t, rfl⟩ (.cons ⟨u, rfl⟩ (.cons ⟨v, rfl⟩ .nil))
theorem mt_rpart : MtR X "str.rpartition" rRpart := by
  intro pins s σ H x vs v us Q I rx rv h
  obtain ⟨z, sep, rfl, rfl, hy, hz, q⟩ := h
  obtain ⟨t, rfl⟩ := rx
  obtain ⟨u, rfl, ru⟩ := vals1 rv
  obtain ⟨t2, rfl⟩ := ru
  refine call_meets F.slot_str_rpartition (typeIs_str _ _ _) F.entry_str_rpartition (F.args_str_rpartition_2 _ _) (meets_str_rpartition z sep t t2 hy hz) ?_
  have q' := q
  unfold Txt.rpartition at q'
  revert q'
  cases Builtin.Str.lastOccurrence z sep 0 z.length with
  | none => intro q'; exact ⟨.ref s.heap.objs.size, _, I.tnew (vals_three _ _ _ _ _ _) (by show 3 ≤ sizeLine; decide), rfl, q' _ I.fresh⟩
  | some i => intro q'; exact ⟨.ref s.heap.objs.size, _, I.tnew (vals_three _ _ _ _ _ _) (by show 3 ≤ sizeLine; decide), rfl, q' _ I.fresh⟩
end
end L2

set_option maxHeartbeats 4000000
namespace L2
open PySem PySem.Spec PyProof.Rows

theorem clos_go {env : Env} : ∀ (ns : List (Str × NameKind)) (acc : List (Str × Addr)), (∀ y ∈ ns, y.2 = .free → ∃ c, env.cells.lookup y.1 = some c) → (∀ p ∈ acc, env.cells.lookup p.1 = some p.2) →
    ∃ cl : List (Str × Addr), (forIn ns acc fun (y : Str × NameKind) (cs : List (Str × Addr)) => (match y with
      | (name, kind) => if (kind == NameKind.free) = true then (do let c ← cellOf env name; pure (ForInStep.yield ((name, c) :: cs))) else pure (ForInStep.yield cs) : Sem (ForInStep (List (Str × Addr))))) = pure cl ∧
      (∀ p ∈ cl, env.cells.lookup p.1 = some p.2) ∧ (∀ p ∈ acc, p ∈ cl) ∧ ∀ y ∈ ns, y.2 = .free → ∃ c, (y.1, c) ∈ cl
  | [], acc, _, ha => ⟨acc, rfl, ha, fun _ h => h, fun _ h => nomatch h⟩
  | (n, k) :: r, acc, hn, ha => by
    have hr : ∀ y ∈ r, y.2 = .free → ∃ c, env.cells.lookup y.1 = some c := fun y hy => hn y (List.mem_cons_of_mem _ hy)
    by_cases hk : k = NameKind.free
    · subst hk
      obtain ⟨c, hc⟩ := hn (n, .free) List.mem_cons_self rfl
      have hc' : env.cells.lookup n = some c := hc
      obtain ⟨cl, e, h1, h2, h3⟩ := clos_go r ((n, c) :: acc) hr (fun p hp => by
        rcases List.mem_cons.mp hp with rfl | hp
        · exact hc'
        · exact ha p hp)
      refine ⟨cl, ?_, h1, fun p hp => h2 p (List.mem_cons_of_mem _ hp), fun y hy hf => ?_⟩
      · rw [List.forIn_cons]
        have e1 : cellOf env n = pure c := by unfold cellOf; rw [hc']
        simp only [beq_self_eq_true, if_true, e1, pure_bind]
        exact e
      · rcases List.mem_cons.mp hy with rfl | hy
        · exact ⟨c, h2 _ List.mem_cons_self⟩
        · exact h3 y hy hf
    · obtain ⟨cl, e, h1, h2, h3⟩ := clos_go r acc hr ha
      refine ⟨cl, ?_, h1, h2, fun y hy hf => ?_⟩
      · rw [List.forIn_cons]
        have hb : (k == NameKind.free) = false := by simpa using hk
        simp only [hb, Bool.false_eq_true, if_false, pure_bind]
        exact e
      · rcases List.mem_cons.mp hy with rfl | hy
        · exact absurd hf hk
        · exact h3 y hy hf
theorem look_some {α : Type} : ∀ {l : List (Str × α)} {x : Str} {c : α}, (x, c) ∈ l → ∃ d, l.lookup x = some d
  | [], _, _, h => nomatch h
  | (y, d) :: r, x, c, h => by
    by_cases e : x = y
    · subst e; exact ⟨d, by simp [List.lookup_cons]⟩
    · have hb : (x == y) = false := by simpa using e
      rcases List.mem_cons.mp h with z | z
      · cases z; exact absurd rfl e
      · obtain ⟨d', h'⟩ := look_some z
        exact ⟨d', by simp only [List.lookup_cons, hb]; exact h'⟩
theorem clos_ok {scope : Scope} {env : Env} (h : ∀ y ∈ scope.names, y.2 = .free → ∃ c, env.cells.lookup y.1 = some c) :
    ∃ cl : List (Str × Addr), closureFor scope env = pure cl ∧ (∀ x c, cl.lookup x = some c → env.cells.lookup x = some c) ∧ ∀ x, (x, NameKind.free) ∈ scope.names → ∃ c, cl.lookup x = some c := by
  obtain ⟨cl, e, h1, _, h3⟩ := clos_go (env := env) scope.names [] h (fun p hp => nomatch hp)
  refine ⟨cl, ?_, fun x c q => h1 (x, c) (PySem.mem_of_lookup q), fun x hx => ?_⟩
  · simp only [closureFor]
    simp only [bind_pure]
    exact e
  · obtain ⟨c, hc⟩ := h3 (x, .free) hx rfl
    exact look_some hc

noncomputable def ixOk (osc sc : Scope) (oN : List Str) : List (Option Nat) → List Str → Bool
  | [], [] => true
  | none :: r, _ :: n => ixOk osc sc oN r n
  | some k :: r, x :: n => (oN[k]? == some x) && (sc.names.lookup x == some .free) && ixOk osc sc oN r n
  | _, _ => false
theorem ixOk_len {osc sc : Scope} {oN : List Str} : ∀ {ix : List (Option Nat)} {N : List Str}, ixOk osc sc oN ix N = true → ix.length = N.length
  | [], [], _ => rfl
  | none :: _, _ :: _, h => congrArg (· + 1) (ixOk_len (by simpa [ixOk] using h))
  | some _ :: _, _ :: _, h => congrArg (· + 1) (ixOk_len (by simp [ixOk] at h; exact h.2))
  | [], _ :: _, h => by simp [ixOk] at h
  | none :: _, [], h => by simp [ixOk] at h
  | some _ :: _, [], h => by simp [ixOk] at h
theorem ixOk_at {osc sc : Scope} {oN : List Str} : ∀ {ix : List (Option Nat)} {N : List Str} (i k : Nat), ixOk osc sc oN ix N = true → ix[i]? = some (some k) → ∃ x, N[i]? = some x ∧ oN[k]? = some x ∧ sc.names.lookup x = some .free
  | [], _, _, _, _, e => by simp at e
  | none :: _, [], _, _, h, _ => by simp [ixOk] at h
  | some _ :: _, [], _, _, h, _ => by simp [ixOk] at h
  | none :: r, x :: n, 0, _, _, e => by simp at e
  | none :: r, x :: n, i + 1, k, h, e => by
    obtain ⟨y, h1, h2⟩ := ixOk_at (ix := r) (N := n) i k (by simpa [ixOk] using h) (by simpa using e)
    exact ⟨y, by simpa using h1, h2⟩
  | some j :: r, x :: n, 0, k, h, e => by
    simp [ixOk] at h
    simp at e
    subst e
    exact ⟨x, by simp, h.1.1, h.1.2⟩
  | some j :: r, x :: n, i + 1, k, h, e => by
    simp [ixOk] at h
    obtain ⟨y, h1, h2⟩ := ixOk_at (ix := r) (N := n) i k h.2 (by simpa using e)
    exact ⟨y, by simpa using h1, h2⟩
noncomputable def blkOk (osc : Scope) (oN N : List Str) (ix : List (Option Nat)) (sc : Scope) : Bool :=
  (sc.kind == .function) && sc.names.all (fun y => (y.2 != .cell) && ((y.2 != .local) || (sc.names.lookup y.1 == some .local)) && ((y.2 != .free) || ((osc.names.lookup y.1 == some .cell) || (osc.names.lookup y.1 == some .free)))) && ixOk osc sc oN ix N
theorem relab_free {env : Env} : ∀ {names : List (Str × NameKind)} {x : Str}, names.lookup x = some .free →
    (names.map fun (n, k) => if (k == NameKind.free && env.scope.kind == .function && env.kindOf n == some .cell) then (n, NameKind.cell) else (n, k)).lookup x = some .cell ∨
    (names.map fun (n, k) => if (k == NameKind.free && env.scope.kind == .function && env.kindOf n == some .cell) then (n, NameKind.cell) else (n, k)).lookup x = some .free
  | [], _, h => by simp at h
  | (n, k) :: r, x, h => by
    have ih := @relab_free env r x
    simp only [List.map_cons]
    cases hx : x == n with
    | true =>
      simp only [List.lookup_cons, hx] at h
      cases h
      by_cases hc : (NameKind.free == NameKind.free && env.scope.kind == .function && env.kindOf n == some .cell) = true
      · left; rw [if_pos hc]; simp only [List.lookup_cons, hx]
      · right; rw [if_neg hc]; simp only [List.lookup_cons, hx]
    | false =>
      simp only [List.lookup_cons, hx] at h
      by_cases hc : (k == NameKind.free && env.scope.kind == .function && env.kindOf n == some .cell) = true
      · rw [if_pos hc]; simp only [List.lookup_cons, hx]; exact ih h
      · rw [if_neg hc]; simp only [List.lookup_cons, hx]; exact ih h
theorem relab_back {env : Env} : ∀ {names : List (Str × NameKind)} {x : Str}, (∀ y ∈ names, y.2 ≠ NameKind.cell) →
    ((names.map fun (n, k) => if (k == NameKind.free && env.scope.kind == .function && env.kindOf n == some .cell) then (n, NameKind.cell) else (n, k)).lookup x = some .cell ∨
    (names.map fun (n, k) => if (k == NameKind.free && env.scope.kind == .function && env.kindOf n == some .cell) then (n, NameKind.cell) else (n, k)).lookup x = some .free) → (x, NameKind.free) ∈ names
  | [], _, _, h => by simp at h
  | (n, k) :: r, x, hn, h => by
    have ih := @relab_back env r x fun y hy => hn y (List.mem_cons_of_mem _ hy)
    simp only [List.map_cons] at h
    by_cases hc : (k == NameKind.free && env.scope.kind == .function && env.kindOf n == some .cell) = true
    · rw [if_pos hc] at h
      cases hx : x == n with
      | true =>
        have e : x = n := by simpa using hx
        have e2 : k = NameKind.free := by simp at hc; exact hc.1.1
        subst e; subst e2
        exact List.mem_cons_self
      | false =>
        simp only [List.lookup_cons, hx] at h
        exact List.mem_cons_of_mem _ (ih h)
    · rw [if_neg hc] at h
      cases hx : x == n with
      | true =>
        have e : x = n := by simpa using hx
        subst e
        simp only [List.lookup_cons, hx] at h
        rcases h with h | h
        · cases h; exact absurd rfl (hn (x, .cell) List.mem_cons_self)
        · cases h; exact List.mem_cons_self
      | false =>
        simp only [List.lookup_cons, hx] at h
        exact List.mem_cons_of_mem _ (ih h)

noncomputable def blk (X : Cx) (N : List Str) (sc : Scope) (cl : List (Str × Addr)) (C : Addr) (fp : List Addr) (s : Shared) (H : Hp) : Cx :=
  { X with N := N, s₀ := s, H₀ := H, env := compEnvC sc cl C X.env, outer := X.stack, ex := fp, fn := fun _ => false, pn := [], xe := fun _ _ => False }
noncomputable def lift (ix : List (Option Nat)) (σ : St) : St := ix.map fun o => o.bind fun k => (σ[k]?).bind id
noncomputable def PF (X : Cx) (ifs : List Expr) (t : TT) : Prop :=
  ∀ (pins : List (Addr × Obj)) (s : Shared) (σ : St) (H : Hp) (Q : Bool → Hp → Prop), Inv X pins σ H s → t σ H Q →
    wpAny (model X.prog X.w) X.A (forIn ifs true fun c r => if r = true then do let ok ← isTrue c X.env (eval c X.env); pure (ForInStep.yield ok) else pure (ForInStep.yield r)) (TP X pins σ Q) X.xe s
noncomputable def tYes : TT := fun _ H Q => Q true H
theorem pf_nil {X : Cx} : PF X [] tYes := fun pins s σ H Q I h => wpAny_tests_nil ⟨H, I, h⟩
theorem pf_one {X : Cx} {c : Expr} {t : TT} (hc : PT X c t) : PF X [c] t := fun pins s σ H Q I h => wpAny_tests_one (hc pins s σ H Q I h)

noncomputable def CompW (g : TG) (tf : TT) (te : TE) (J : It) (σ0 : St) (H1 : Hp) (Fin : List V → Hp → Prop) : Prop :=
  ∃ W : Nat → Nat → St → List V → Hp → Prop, (∃ m, W 0 m σ0 [] H1) ∧ ∀ i m τ ys H, W i m τ ys H →
    (J.stop i H ∧ Fin ys H) ∨ (J.go i H ∧ ∀ x H', J.yld i H x H' → g x τ H' fun τ2 H2 => tf τ2 H2 fun b H3 =>
      if b = true then te τ2 H3 fun y H4 => ys.length < sizeLine ∧ ∃ m', m' < m ∧ W (i + 1) m' τ2 (ys ++ [y]) H4 else ∃ m', m' < m ∧ W (i + 1) m' τ2 ys H3)
noncomputable def tComp (ix : List (Option Nat)) (wi : TI) (g : TG) (tf : TT) (te : TE) : TE := fun σ H Q => wi σ H fun J H1 => CompW g tf te J (lift ix σ) H1 fun ys H' => ∀ p, H' p = none → Q (.ref p) (upd H' p (.lst ys))

theorem cloop {P : Program} {w : World} {A : Around} {R : Result → Shared → Prop} {s : Shared} {el tg src : Expr} {fs : List Expr} {sc : Scope} {ps : Pos} {iv ac : Value} {en : Env} (J : Nat → Shared → Prop)
    (turn : ∀ n s, J n s → wpAny (model P w) A (pyNext iv) (fun r s1 => match r with
      | none => R (.ok .next) s1
      | some v => wpAny (model P w) A (letOwnedTupleGo tg iv v) (fun _ s2 => wpAny (model P w) A (assign tg en v) (fun _ s3 =>
          wpAny (model P w) A (forIn fs true fun c r => if r = true then do let ok ← isTrue c en (eval c en); pure (ForInStep.yield ok) else pure (ForInStep.yield r)) (fun ok s4 =>
            if ok = true then wpAny (model P w) A (eval el en) (fun x s5 => wpAny (model P w) A (call (.builtin "list.append") [ac, x]) (fun _ s6 => ∃ m, m < n ∧ J m s6) (fun _ _ => False) s5) (fun _ _ => False) s4
            else ∃ m, m < n ∧ J m s4) (fun _ _ => False) s3) (fun _ _ => False) s2) (fun _ _ => False) s1) (fun _ _ => False) s)
    (n : Nat) (h : J n s) : codeAny (model P w) A (.compLoop (.ListComp el [⟨tg, src, fs, 0⟩] sc ps) 0 iv ac en) R s := by
  have ab : ∀ {α : Type} {t : Sem α} {Q Q' : α → Shared → Prop} {E : Value → Shared → Prop} {s : Shared}, wpAny (model P w) A t Q (fun _ _ => False) s → (∀ a s, Q a s → Q' a s) → wpAny (model P w) A t Q' E s :=
    fun h hq => wpAny_mono h hq fun _ _ f => f.elim
  refine codeAny_loop rfl J (fun n s hJ => ?_) n h
  show wpAny _ A ((compTurn (.ListComp el [⟨tg, src, fs, 0⟩] sc ps) 0 iv ac en).onRaise (fun x => do noteFrame x en; theTreesLotGoes x)) _ _ s
  refine wpAny_noted ?_
  rw [compTurn_list]
  refine wpAny_bind (wpAny_standAt (wpAny_bind (ab (turn n s hJ) fun r s1 h1 => ?_)))
  cases r with
  | none => exact wpAny_pure h1
  | some v =>
    refine wpAny_bind (ab h1 fun _ s2 h2 => wpAny_bind (ab h2 fun _ s3 h3 => wpAny_bind (ab h3 fun ok s4 h4 => ?_)))
    cases ok with
    | false => exact wpAny_pure ⟨rfl, h4⟩
    | true => exact wpAny_bind (wpAny_bind (ab h4 fun x s5 h5 => wpAny_bind (ab h5 fun _ s6 h6 => wpAny_pure (wpAny_pure ⟨rfl, h6⟩))))

section
variable {X : Cx} {pins : List (Addr × Obj)} {σ : St} {H2 : Hp} {s2 : Shared} {N : List Str} {ix : List (Option Nat)} {sc : Scope} {cl : List (Str × Addr)}
theorem blk_ok (I : Inv X pins σ H2 s2) (hb : blkOk X.env.scope X.N N ix sc = true) (c1 : ∀ x c, cl.lookup x = some c → X.env.cells.lookup x = some c) (c2 : ∀ x, (x, NameKind.free) ∈ sc.names → ∃ c, cl.lookup x = some c)
    {fp : List Addr} (hf : ∀ b ∈ fp, FpOk X pins H2 b) (hfo : ∀ b ∈ fp, ∃ o, s2.heap.get? b = some o) {C : Addr} (hC : s2.heap.objs.size ≤ C) : (blk X N sc cl C fp s2 H2).Ok := by
  unfold blkOk at hb
  simp only [Bool.and_eq_true] at hb
  obtain ⟨⟨hk, hn⟩, hi⟩ := hb
  have nocell : ∀ y ∈ sc.names, y.2 ≠ NameKind.cell := fun y hy => by
    have := List.all_eq_true.mp hn y hy
    simp only [Bool.and_eq_true] at this
    simpa using this.1.1
  refine ⟨I.ok.mod, ?_, I.ok.glob, I.ok.blt, hC, fun x y c h1 h2 => I.ok.inj x y c (c1 x c h1) (c1 y c h2), fun x hx => ?_, fun x c hx => ?_, I.ok.hd, I.ok.frames, .inl rfl, fun b hb => ⟨?_, fun x c h => ?_⟩, I.bs, Nat.le_trans I.ok.bsz I.sz, fun b o e hb => ?_, fun b hb hs => ?_, I.stack, I.stkFree⟩
  · show (relabel sc X.env).kind = .function
    exact eq_of_beq hk
  · exact c2 x (relab_back nocell hx)
  · cases hx
  · show b ≠ C
    obtain ⟨o, e⟩ := hfo b hb
    exact Nat.ne_of_lt (Nat.lt_of_lt_of_le (Heap.lt_size e) hC)
  · obtain ⟨_, _, _, _, h5, _⟩ := hf b hb
    exact h5 x c (c1 x c h)
  · obtain ⟨_, _, _, h4, _, _⟩ := hf b hb
    rcases h4 with h4 | h4
    · exact I.ok.noex b o e h4
    · exact absurd (Nat.lt_of_lt_of_le (Heap.lt_size (I.ok.bs b o e).1) h4) (Nat.lt_irrefl _)
  · obtain ⟨_, h2, h3, _⟩ := hf b hb
    rcases List.mem_cons.mp (I.stkSub b hs) with z | z
    · exact h2 z
    · exact h3 z
theorem Un.grow {fs ex : List Addr} {H H' : Hp} {h h' : Heap} {D : Addr} {o : HO} (u : Un fs ex H H' h h') (hD : h.objs.size ≤ D) (hn : H D = none) : Un fs ex H (upd H' D o) h h' := by
  have lt : ∀ {b : Addr} {ob : Obj}, h.get? b = some ob → b ≠ D := fun e z => by
    subst z; exact absurd (Nat.lt_of_lt_of_le (Heap.lt_size e) hD) (Nat.lt_irrefl _)
  refine ⟨u.keep, u.slot, fun b ob e n hx => by rw [upd_ne (lt e)]; exact u.free b ob e n hx, u.there, fun b xs e => ?_, fun b ob v e => ?_, fun b ps e => ?_⟩
  · rw [upd_ne (ne_of_none e hn)]; exact u.tups b xs e
  · rw [upd_ne (ne_of_none e hn)]; exact u.frzs b ob v e
  · obtain ⟨m, q⟩ := u.tbls b ps e
    exact ⟨m, by rw [upd_ne (ne_of_none e hn)]; exact q⟩
theorem HOk.grow {P : Program} {w : World} {H : Hp} {h : Heap} {D : Addr} {o : HO} (x : HOk P w H h) (hn : H D = none) (new : ObjOk P w (upd H D o) h D o) : HOk P w (upd H D o) h := fun b u e => by
  by_cases hb : b = D
  · subst hb; rw [upd_same] at e; cases e; exact new
  · rw [upd_ne hb] at e
    exact (x b u e).stay (fun _ _ _ q => q) (fun c q => by rw [upd_ne (ne_of_none q hn)]; exact q) fun c xs q => by rw [upd_ne (ne_of_none q hn)]; exact q

theorem lift_at {ix : List (Option Nat)} {σ : St} {i : Nat} {v : V} (h : (lift ix σ)[i]? = some (some v)) : ∃ k, ix[i]? = some (some k) ∧ σ[k]? = some (some v) := by
  unfold lift at h
  rw [List.getElem?_map] at h
  cases e : ix[i]? with
  | none => rw [e] at h; cases h
  | some o =>
    rw [e] at h
    cases o with
    | none => simp at h
    | some k =>
      refine ⟨k, rfl, ?_⟩
      simp only [Option.map_some, Option.bind_some, Option.some.injEq] at h
      cases q : σ[k]? with
      | none => rw [q] at h; cases h
      | some z => rw [q] at h; have h' : z = some v := h; rw [h']

theorem comp_core {el tg src : Expr} {ifs : List Expr} {pos : Pos} {g : TG} {tf : TT} {te : TE} {J : It} {fp : List Addr} {it : Addr} {tn : Nat → Heap → Prop} {E : Value → Shared → Prop} {Fin : List V → Hp → Prop} {RR : Value → Addr → Result → Shared → Prop}
    (I : Inv X pins σ H2 s2) (hc : X.calm = true) (hb : blkOk X.env.scope X.N N ix sc = true) (c1 : ∀ x c, cl.lookup x = some c → X.env.cells.lookup x = some c) (c2 : ∀ x, (x, NameKind.free) ∈ sc.names → ∃ c, cl.lookup x = some c)
    (T : Turn X.prog X.w X.K tg J fp it tn) (st : tn 0 s2.heap) (hf : ∀ b ∈ fp, FpOk X pins H2 b)
    (hg : ∀ C fp, PG (blk X N sc cl C fp s2 H2) tg g) (hfs : ∀ C fp, PF (blk X N sc cl C fp s2 H2) ifs tf) (he : ∀ C fp, PE (blk X N sc cl C fp s2 H2) el te)
    (hW : CompW g tf te J (lift ix σ) H2 Fin)
    (hRR : ∀ D C s' ys H', H' D = none → (∃ m, s'.heap.Ns C m) → Inv X pins σ (upd H' D (.lst ys)) s' → FpOk X pins (upd H' D (.lst ys)) C → Fin ys H' → RR (.ref D) C (.ok .next) s') :
    wpAny (model X.prog X.w) X.A (newList []) (fun acc s3 => wpAny (model X.prog X.w) X.A (newFunctionEnv sc X.env.globals cl [] X.env.qual none .none (some X.env)) (fun cenv s4 =>
      codeAny (model X.prog X.w) X.A (.compStart (.ListComp el [⟨tg, src, ifs, 0⟩] sc pos) 0 (.ref it) acc { cenv with scope := relabel sc X.env }) (RR acc cenv.locals) s4) E s3) E s2 := by
  obtain ⟨W, ⟨m0, w0⟩, turn⟩ := hW
  have hb' := hb
  unfold blkOk at hb'
  simp only [Bool.and_eq_true] at hb'
  obtain ⟨⟨hk, hn⟩, hi⟩ := hb'
  have nocell : ∀ y ∈ sc.names, y.2 ≠ NameKind.cell := fun y hy => by
    have := List.all_eq_true.mp hn y hy
    simp only [Bool.and_eq_true] at this
    simpa using this.1.1
  have hkind : sc.kind = .function := eq_of_beq hk
  refine wpAny_newObj_type (wpAny_newFunctionEnv nocell (by intro y hy; simp at hy) (fun h1 hns hsb => ?_) hkind)
  dsimp only at hns hsb ⊢
  generalize hP : s2.heap.push { cls := .type "list", dict := none, data := .seq ([] : List Value).toArray } = P2 at hns hsb ⊢
  have hC : P2.objs.size = s2.heap.objs.size + 1 := by rw [← hP, Heap.size_push]
  have hDC : s2.heap.objs.size ≠ P2.objs.size := by rw [hC]; exact Nat.ne_of_lt (Nat.lt_succ_self _)
  have hCle : s2.heap.objs.size ≤ P2.objs.size := by rw [hC]; omega
  have fpo : ∀ b ∈ fp, ∃ o, s2.heap.get? b = some o := fun b hb => let ⟨o, e, _⟩ := T.obj _ _ st b hb; ⟨o, e⟩
  have old : ∀ b o, s2.heap.get? b = some o → h1.get? b = some o := fun b o e => by
    refine (hsb.2 b ?_).trans (Heap.get?_push_of_some _ (hP ▸ Heap.get?_push_of_some _ e))
    rw [hC]; exact Nat.ne_of_lt (Nat.lt_succ_of_lt (Heap.lt_size e))
  have hacc : h1.get? s2.heap.objs.size = some { cls := .type "list", dict := none, data := .seq ([] : List Value).toArray } :=
    (hsb.2 _ hDC).trans (Heap.get?_push_of_some _ (hP ▸ Heap.get?_push_size _ rfl))
  have bok : (blk X N sc cl P2.objs.size fp s2 H2).Ok := blk_ok I hb c1 c2 hf fpo hCle
  have frD : ∀ {b : Addr}, s2.heap.objs.size ≤ b → b ∉ frs X.stack := fun hb hz => by
    rcases List.mem_cons.mp (I.stkSub _ hz) with z | z
    · exact absurd (z ▸ hb) (Nat.not_le.mpr I.lt)
    · exact I.nofs hb z
  have cellD : ∀ x c, cl.lookup x = some c → c < s2.heap.objs.size := fun x c e => by
    obtain ⟨v, q⟩ := I.cell x c (c1 x c e)
    exact q.lt
  -- the start
  have I0 : Inv (blk X N sc cl P2.objs.size fp s2 H2) [(s2.heap.objs.size, { cls := .type "list", dict := none, data := .seq ([] : List Value).toArray })] (lift ix σ) H2 { s2 with heap := h1, toks := s2.toks + ([] : List (Str × Value)).length } := by
    refine ⟨bok, rfl, I.bare, Un.kept old, ⟨_, hns, fun i x v e1 e2 e3 => ?_⟩, fun x c e => ?_, I.hok.fresh hCle, fun x c e => I.freeC x c (c1 x c e), fun p hp => ?_, I.hok.kept old, ?_⟩
    · obtain ⟨k, q1, q2⟩ := lift_at e2
      obtain ⟨y, z1, z2, z3⟩ := ixOk_at i k hi q1
      have e1' : N[i]? = some x := e1
      rw [e1'] at z1
      cases z1
      have hin : (x, NameKind.free) ∈ sc.names := PySem.mem_of_lookup z3
      obtain ⟨c, hcl⟩ := c2 x hin
      have okind : X.env.scope.names.lookup x = some .cell ∨ X.env.scope.names.lookup x = some .free := by
        have := List.all_eq_true.mp hn _ hin
        simp only [Bool.and_eq_true] at this
        simpa using this.2
      obtain ⟨m, hm, hl⟩ := I.loc
      obtain ⟨u, r, l⟩ := hl k x v z2 q2 (by rcases okind with z | z; exact .inr (.inl z); exact .inr (.inr z))
      refine ⟨u, r, .inr ⟨relab_free z3, c, hcl, ?_⟩⟩
      rcases l with ⟨lk, _⟩ | ⟨_, c', hc', z⟩
      · have lk' : X.env.scope.names.lookup x = some .local := lk
        rcases okind with q | q <;> rw [q] at lk' <;> cases lk'
      · rw [c1 x c hcl] at hc'
        cases hc'
        obtain ⟨oc, ho, hd⟩ := z
        exact ⟨oc, old _ _ ho, hd⟩
    · obtain ⟨v, oc, ho, hd⟩ := I.cell x c (c1 x c e)
      exact ⟨v, oc, old _ _ ho, hd⟩
    · have hp' : p = (s2.heap.objs.size, { cls := .type "list", dict := none, data := .seq ([] : List Value).toArray }) := by
        rcases List.mem_append.mp hp with z | z
        · exact absurd (show p ∈ ([] : List (Addr × Obj)) from z) (by simp)
        · simpa using z
      subst hp'
      exact ⟨hacc, I.fresh, hDC, frD (Nat.le_refl _), fun v z => by cases z⟩
    · show (lift ix σ).length = N.length
      unfold lift
      rw [List.length_map]
      exact ixOk_len hi
  have stat : ∀ {o : Obj} {H' : Hp}, (∀ b ∈ fp, H' b = none) → ∀ b ∈ fp, FpOk (blk X N sc cl P2.objs.size fp s2 H2) [(s2.heap.objs.size, o)] H' b := fun {o H'} hz b hb => by
    obtain ⟨_, g2, g3, g4, g5, g6⟩ := hf b hb
    obtain ⟨ob, eb⟩ := fpo b hb
    have lb := Heap.lt_size eb
    refine ⟨hz b hb, ?_, ?_, .inl hb, fun x c e => g5 x c (c1 x c e), fun p hp => ?_⟩
    · show b ≠ P2.objs.size
      rw [hC]; exact Nat.ne_of_lt (Nat.lt_succ_of_lt lb)
    · intro hz
      rcases List.mem_cons.mp (I.stkSub b hz) with z | z
      · exact g2 z
      · exact g3 z
    · have hp' : p = (s2.heap.objs.size, o) := by
        rcases List.mem_append.mp hp with z | z
        · exact absurd (show p ∈ ([] : List (Addr × Obj)) from z) (by simp)
        · simpa using z
      subst hp'
      show s2.heap.objs.size ≠ b
      exact Nat.ne_of_gt lb
  -- the loop
  have loop : ∀ s4 : Shared, s4 = { s2 with heap := h1, toks := s2.toks + ([] : List (Str × Value)).length } →
      codeAny (model X.prog X.w) X.A (.compLoop (.ListComp el [⟨tg, src, ifs, 0⟩] sc pos) 0 (.ref it) (.ref s2.heap.objs.size) (compEnvC sc cl P2.objs.size X.env)) (RR (.ref s2.heap.objs.size) P2.objs.size) s4 := by
    rintro s4 rfl
    refine cloop (fun n s' => ∃ (i : Nat) (τ : St) (ys : List V) (its : List Value) (k : Nat) (H' : Hp), Vals ys its ∧ ys.length ≤ sizeLine ∧
        Inv (blk X N sc cl P2.objs.size fp s2 H2) [(s2.heap.objs.size, { cls := .type "list", data := .seq its.toArray k })] τ H' s' ∧ tn i s'.heap ∧ (∀ b ∈ fp, H' b = none) ∧ W i n τ ys H') ?_ m0
      ⟨0, _, [], [], 0, H2, .nil, Nat.zero_le _, I0, T.keep _ _ _ st fun b _ o e => old b o e, fun b hb => (hf b hb).1, w0⟩
    rintro n s5 ⟨i, τ, ys, its, k, H5, rv, hz, I5, st5, fr5, w5⟩
    rcases turn i n τ ys H5 w5 with ⟨stop, fin⟩ | ⟨go, step⟩
    · refine thn (T.done (blk X N sc cl P2.objs.size fp s2 H2) rfl rfl rfl hc i _ s5 τ H5 (fun _ _ => False) I5 (stat fr5) st5 stop) fun r s6 ⟨hr, I6⟩ => ?_
      subst hr
      obtain ⟨m, hns6, _⟩ := I6.loc
      obtain ⟨gD, fD, _, _, _⟩ := I6.pin (s2.heap.objs.size, { cls := .type "list", data := .seq its.toArray k }) (List.mem_append_right _ (by simp))
      have fD' : H5 s2.heap.objs.size = none := fD
      refine hRR _ _ s6 ys H5 fD' ⟨m, hns6⟩ ?_ (I.fpOk hCle ?_) fin
      · refine I.call' (ch := fp) I6.os (Un.grow I6.base (Nat.le_refl _) I.fresh) (HOk.grow I6.hok fD' ⟨hz, its, k, rv, gD⟩) I6.bare fun b hb => ?_
        obtain ⟨_, g2, _, g4, g5, g6⟩ := hf b hb
        exact ⟨g4, g2, g5, g6⟩
      · rw [upd_ne (Ne.symm hDC)]
        exact I6.free
    · refine thn (T.item (blk X N sc cl P2.objs.size fp s2 H2) rfl rfl rfl hc i _ s5 τ H5 (fun _ _ => False) I5 (stat fr5) st5 go) fun r s6 ⟨u, hr, h6⟩ => ?_
      subst hr
      refine thn h6 fun _ s7 ⟨x, H7, I7, r7, y7, st7, fr7⟩ => ?_
      have I7' := I7.pinned (stat fr7) (T.obj _ _ st7)
      refine thn (hg _ _ _ s7 τ H7 x u _ I7' r7 (step x H7 y7)) fun _ s8 ⟨τ8, H8, I8, q8⟩ => ?_
      refine thn (hfs _ _ _ s8 τ8 H8 _ I8 q8) fun ok s9 ⟨H9, I9, q9⟩ => ?_
      -- what the pins say behind the turn
      have tail : ∀ {s' : Shared} {τ' : St} {H' : Hp}, Inv (blk X N sc cl P2.objs.size fp s2 H2) ([(s2.heap.objs.size, { cls := .type "list", data := .seq its.toArray k })] ++ pinsAt fp s7.heap) τ' H' s' →
          (s'.heap.get? s2.heap.objs.size = some { cls := .type "list", data := .seq its.toArray k } ∧ H' s2.heap.objs.size = none) ∧ (∀ b ∈ fp, ∀ o, s7.heap.get? b = some o → s'.heap.get? b = some o) ∧ ∀ b ∈ fp, H' b = none := fun {s' τ' H'} I' => by
        refine ⟨?_, fun b hb o e => (I'.pin (b, o) (List.mem_append_right _ (List.mem_append_right _ (mem_pinsAt hb e)))).1, fun b hb => ?_⟩
        · obtain ⟨a1, a2, _⟩ := I'.pin (s2.heap.objs.size, { cls := .type "list", data := .seq its.toArray k }) (List.mem_append_right _ (List.mem_append_left _ (by simp)))
          exact ⟨a1, a2⟩
        · obtain ⟨o, e, _⟩ := T.obj _ _ st7 b hb
          exact (I'.pin (b, o) (List.mem_append_right _ (List.mem_append_right _ (mem_pinsAt hb e)))).2.1
      cases ok with
      | false =>
        obtain ⟨m', hm, w9⟩ := q9
        obtain ⟨_, k2, k3⟩ := tail I9
        exact ⟨m', hm, i + 1, τ8, ys, its, k, H9, rv, hz, I9.unpinned, T.keep _ _ _ st7 k2, k3, w9⟩
      | true =>
        refine thn (he _ _ _ s9 τ8 H9 _ I9 q9) fun v s10 ⟨y, H10, I10, r10, hl, m', hm, w10⟩ => ?_
        obtain ⟨⟨gD, fD⟩, k2, k3⟩ := tail I10
        have hlen := rv.length
        refine call_meets F.slot_list_append ⟨_, gD, rfl⟩ F.entry_list_append (F.args_list_append_2 _ _) (PySem.list_append s2.heap.objs.size its.toArray k v (by rw [List.size_toArray]; omega)) ⟨gD, ?_⟩
        obtain ⟨k', q⟩ : ∃ k', (s10.heap.update s2.heap.objs.size (Obj.mapSeq (·.push v))).get? s2.heap.objs.size = some { cls := .type "list", data := .seq (its ++ [v]).toArray k' } := by
          have q := PySem.IsL.update gD (·.push v)
          rw [show (its.toArray.push v) = (its ++ [v]).toArray from by simp] at q
          exact ⟨_, q⟩
        have other : ∀ b o, b ≠ s2.heap.objs.size → s10.heap.get? b = some o → (s10.heap.update s2.heap.objs.size (Obj.mapSeq (·.push v))).get? b = some o := fun b o hb e => (Heap.get?_update_other s10.heap _ (Ne.symm hb)).trans e
        have Ia : Inv (blk X N sc cl P2.objs.size fp s2 H2) [] τ8 H10 { s10 with heap := s10.heap.update s2.heap.objs.size (Obj.mapSeq (·.push v)), toks := s10.toks } :=
          (I10.pins_of (pins' := []) fun p hp => nomatch hp).turned other fD hDC (.inr (Nat.le_refl _)) (fun x c e => Nat.ne_of_lt (cellD x c e)) fun p hp => absurd (show p ∈ ([] : List (Addr × Obj)) from hp) (by simp)
        refine ⟨m', hm, i + 1, τ8, ys ++ [y], its ++ [v], k', H10, rv.append (.cons r10 .nil), by rw [List.length_append, List.length_singleton]; omega, ?_, T.keep _ _ _ st7 fun b hb o e => ?_, k3, w10⟩
        · refine Ia.pins_of fun p hp => ?_
          have hp' := List.mem_singleton.mp hp
          subst hp'
          exact ⟨q, fD, hDC, frD (Nat.le_refl _), fun v z => by cases z⟩
        · obtain ⟨ob, eb⟩ := fpo b hb
          exact other b o (Nat.ne_of_lt (Heap.lt_size eb)) (k2 b hb o e)
  exact codeAny_compStart_list (loop _ rfl) (T.self X.A 0 _ _ _ (T.keep _ _ _ st fun b _ o e => old b o e) (loop _ rfl))
end

section
variable {X : Cx} {N : List Str} {ix : List (Option Nat)} {sc : Scope} {el tg src : Expr} {ifs : List Expr} {wi : TI} {g : TG} {tf : TT} {te : TE} {pos : Pos}
theorem Inv.clos {pins : List (Addr × Obj)} {σ : St} {H : Hp} {s : Shared} (I : Inv X pins σ H s) (hb : blkOk X.env.scope X.N N ix sc = true) :
    ∃ cl : List (Str × Addr), closureFor sc X.env = pure cl ∧ (∀ x c, cl.lookup x = some c → X.env.cells.lookup x = some c) ∧ ∀ x, (x, NameKind.free) ∈ sc.names → ∃ c, cl.lookup x = some c := by
  refine clos_ok fun y hy hf => I.ok.has y.1 ?_
  unfold blkOk at hb
  simp only [Bool.and_eq_true] at hb
  have := List.all_eq_true.mp hb.1.2 y hy
  simp only [Bool.and_eq_true] at this
  have h2 := this.2
  rw [hf] at h2
  have h3 : X.env.scope.names.lookup y.1 = some .cell ∨ X.env.scope.names.lookup y.1 = some .free := by simpa using h2
  exact h3
theorem blk_names (hb : blkOk X.env.scope X.N N ix sc = true) : sc.kind = .function ∧ ∀ y ∈ sc.names, y.2 = .local → sc.names.lookup y.1 = some .local := by
  unfold blkOk at hb
  simp only [Bool.and_eq_true] at hb
  refine ⟨eq_of_beq hb.1.1, fun y hy hl => ?_⟩
  have := List.all_eq_true.mp hb.1.2 y hy
  simp only [Bool.and_eq_true] at this
  have h2 := this.1.2
  rw [hl] at h2
  simpa using h2
theorem pe_comp (ix : List (Option Nat)) (hc : X.calm = true) (hb : blkOk X.env.scope X.N N ix sc = true) (hi : PI X tg src wi)
    (hg : ∀ cl C fp s H, PG (blk X N sc cl C fp s H) tg g) (hf : ∀ cl C fp s H, PF (blk X N sc cl C fp s H) ifs tf) (he : ∀ cl C fp s H, PE (blk X N sc cl C fp s H) el te)
    (hs : ∀ x, foldedSetIterable src X.env x = pure x := by intro _; rfl) : PE X (.ListComp el [⟨tg, src, ifs, 0⟩] sc pos) (tComp ix wi g tf te) := by
  intro pins s σ H Q I h
  obtain ⟨cl, hcl, c1, c2⟩ := I.clos hb
  obtain ⟨hk, hn⟩ := blk_names hb
  rw [eval_ListComp]
  refine wpAny_comprehension_free (use := none) rfl hs hcl hk hn (thn (hi pins s σ H _ I h) fun xv s1 h1 => thn h1 fun itv s2 h2 => ?_)
  obtain ⟨it, fp, tn, J, H2, rfl, I2, T, st, f2, hW⟩ := h2
  refine comp_core (RR := fun acc C => compPost (model X.prog X.w) X.A X.xe none (EP X pins σ Q) acc C) I2 hc hb c1 c2 T st f2 (fun C fp => hg cl C fp s2 H2) (fun C fp => hf cl C fp s2 H2) (fun C fp => he cl C fp s2 H2) hW ?_
  intro D C s' ys H' hD ⟨m, hm⟩ I' fC fin
  refine ⟨m, hm, fun h' hs' => ⟨.ref D, _, ?_, rfl, fin D hD⟩⟩
  obtain ⟨g1, g2, _, g4, g5, g6⟩ := fC
  exact I'.turned (t' := s'.toks) (fun b o hb e => (hs'.2 b hb).trans e) g1 g2 g4 g5 g6
theorem ps_comp (ix : List (Option Nat)) {i : Nat} {x : Str} {pos' spos : Pos} (hN : X.N.Nodup) (hxi : X.N[i]? = some x) (hx : Loc X.env.scope x) (hc : X.calm = true) (hb : blkOk X.env.scope X.N N ix sc = true) (hi : PI X tg src wi)
    (hg : ∀ cl C fp s H, PG (blk X N sc cl C fp s H) tg g) (hf : ∀ cl C fp s H, PF (blk X N sc cl C fp s H) ifs tf) (he : ∀ cl C fp s H, PE (blk X N sc cl C fp s H) el te)
    (hsw : swapsWith (.ListComp el [⟨tg, src, ifs, 0⟩] sc pos) (some (.Name x pos')) spos.line X.env = pure true := by rfl)
    (hfn : X.fn x = true ∨ X.env.scope.names.lookup x = some .local := by first | exact .inl rfl | exact .inr rfl | assumption)
    (hs : ∀ x, foldedSetIterable src X.env x = pure x := by intro _; rfl) : PS X (.Assign [.Name x pos'] (.ListComp el [⟨tg, src, ifs, 0⟩] sc pos) spos) (tAsg (tComp ix wi g tf te) (gName i)) := by
  intro pins s σ H D0 I h
  obtain ⟨cl, hcl, c1, c2⟩ := I.clos hb
  obtain ⟨hk, hn⟩ := blk_names hb
  rw [exec_Assign_Name_used _ _ _ _ hsw]
  refine wpAny_bind (wpAny_standAt (wpAny_bind ?_))
  show wpAny _ X.A (do let _ ← comprehension (.ListComp el [⟨tg, src, ifs, 0⟩] sc pos) sc X.env _ (newList []) false (eval src X.env) (some (assign (.Name x pos') X.env))) _ _ s
  refine wpAny_bind (thn (wpAny_comprehension_free (use := some (assign (.Name x pos') X.env)) (Q := fun _ s' => SP X pins D0 .next s') rfl hs hcl hk hn (thn (hi pins s σ H _ I h) fun xv s1 h1 => thn h1 fun itv s2 h2 => ?_)) fun _ s' hq => wpAny_pure (wpAny_pure hq))
  obtain ⟨it, fp, tn, J, H2, rfl, I2, T, st, f2, hW⟩ := h2
  refine comp_core (RR := fun acc C => compPost (model X.prog X.w) X.A X.xe (some (assign (.Name x pos') X.env)) (fun _ s' => SP X pins D0 .next s') acc C) I2 hc hb c1 c2 T st f2 (fun C fp => hg cl C fp s2 H2) (fun C fp => hf cl C fp s2 H2) (fun C fp => he cl C fp s2 H2) hW ?_
  intro D C s' ys H' hD ⟨m, hm⟩ I' fC fin
  obtain ⟨g1, g2, _, g4, g5, g6⟩ := fC
  show wpAny _ X.A (assign (.Name x pos') X.env (.ref D)) _ _ _
  refine wpAny_assign_Name (store_ok2 (v := .ref D) I' hN hxi hx rfl (fun s'' I'' ⟨a, sb, ha⟩ => ?_) hfn)
  have hCa : C ≠ a := by
    rcases ha with z | z
    · rw [z]; exact g2
    · exact fun e => g5 x a z e.symm
  refine ⟨m, hm.sameBut sb hCa, fun h' hs' => ⟨_, _, I''.turned (t' := s''.toks) (fun b o hb e => (hs'.2 b hb).trans e) g1 g2 g4 g5 g6, fin D hD⟩⟩
end

end L2

set_option maxHeartbeats 4000000
namespace L2
open PySem PySem.Spec PyProof.Rows

theorem ite2d {c A B : Prop} [Decidable c] (h1 : c → A) (h2 : ¬ c → B) : if decide c = true then A else B := by
  by_cases h : c
  · rw [if_pos (decide_eq_true h)]; exact h1 h
  · rw [if_neg (by simpa using h)]; exact h2 h
theorem iteVi {i j : Int} {A B : Prop} (h1 : i = j → A) (h2 : ¬ i = j → B) : if decide (V.int i = V.int j) = true then A else B :=
  ite2d (fun h => h1 (V.int.inj h)) fun h => h2 fun e => h (congrArg V.int e)
theorem iteNe {x y : V} {A B : Prop} (e : x = y) (h : B) : if (!decide (x = y)) = true then A else B := by
  rw [if_neg (by simp [e])]; exact h
theorem Same.new {H : Hp} {p : Addr} {o : HO} (h : H p = none) : Same H (upd H p o) := fun b u e => by
  rw [upd_ne (ne_of_none e h)]; exact e
theorem Same.put {H H' : Hp} {p : Addr} {o : HO} (s : Same H H') (h : H' p = none) : Same H (upd H' p o) := s.trans (Same.new h)
theorem Same.over {H H' : Hp} {p : Addr} {o : HO} (s : Same H H') (h : H p = none) : Same H (upd H' p o) := fun b u e => by
  rw [upd_ne (ne_of_none e h)]; exact s b u e
theorem Same.lst {H H' : Hp} {p : Addr} {xs : List V} (s : Same H H') (h : H p = some (.lst xs)) : H' p = some (.lst xs) := s _ _ h

structure FnAt (K : PySem.W.Frag) (mg : Str → Option Value) (x : Str) (st : Stmt) (ps : List Str) (f : Addr) (fd : FuncData) : Prop where
  F : Fun K x x st f fd
  b : Binds K fd ps []
  m : mg x = some (.ref f)
section
variable {X : Cx} {k : Nat} {f : Addr} {fd : FuncData} {ps : List Str} {sp : Sp} {x : Str} {st : Stmt} {p pos : Pos} {e : Expr} {es : List Expr} {t : TA}
theorem pcall (A : FnAt X.K X.mg x st ps f fd) (G : FnOk X.prog X.w X.K X.mg X.base CX0 k f fd ps sp) (hr : Room k X.A) (ha : PA X (e :: es) t) (hg : Gl X x := by rfl)
    (hdb : (x == ("__debug__" : Str)) = false := by decide) (he : starEach (e :: es) X.env = (false, eval e X.env) :: starEach es X.env := by rfl) (hpl : (backTo pos (starEach es X.env)).any (·.1) = false := by rfl) :
    PE X (.Call (.Name x p) (e :: es) [] pos) (tCall sp [] E0 t) := pe_call G hr hg A.m A.F.kp A.b .nil pass0 ha hdb he hpl
end
noncomputable def Pur (v : V) (H : Hp) (Q : VK) : Prop := ∀ H', Same H H' → Q v H'
end L2

namespace Mine
open PySem PySem.Spec PyProof.Rows L2
noncomputable def spPick : Sp := fun vs H Q _ => ∃ (c k m : Int), vs = [.int c, .int k, .int m] ∧ 0 ≤ k ∧ k < 40 ∧ 0 < m ∧ Pur (.int (pick c k m)) H Q
end Mine

set_option maxHeartbeats 4000000
namespace L2
open PySem PySem.Spec PyProof.Rows

section
variable {X : Cx}
noncomputable def rSlS : V → Option Int → Option Int → Hp → VK → Prop := fun x lo hi H Q => ∃ z, x = .str z ∧ z.length ≤ sizeLine ∧ Q (.str (Txt.slice z lo hi)) H
theorem part_of {v : Value} {o : Option Int} (p : IsPart v o) : ∃ l : Option (Int × Tok), v = partValue l ∧ o = l.map (·.1) := by
  cases p with
  | none => exact ⟨none, rfl, rfl⟩
  | int i t => exact ⟨some (i, t), rfl, rfl⟩
theorem sl_str : SlR X rSlS := by
  intro pins s σ H x v vl vu lo hi sl Q I rx hs pl pu h
  obtain ⟨z, rfl, hz, q⟩ := h
  obtain ⟨t, rfl⟩ := rx
  obtain ⟨l, rfl, rfl⟩ := part_of pl
  obtain ⟨u, rfl, rfl⟩ := part_of pu
  obtain ⟨os, h1, h2, h3⟩ := hs
  refine ⟨"str", _, F.slot_str_getitem.lookup, typeIs_str _ _ _, ?_⟩
  exact wpAny_getItem_str_slice (l := l) (u := u) (st := none) ⟨os, h1, h2, h3⟩ rfl (post_val_or_str ⟨Nat.le_trans (Txt.slice_le z _ _) hz, fun t' k => ⟨.str _, H, I.tok k, ⟨t', rfl⟩, q⟩⟩)

noncomputable def Its (z : Str) : It := ⟨fun i _ => i < z.cps.size, fun i H x H' => H' = H ∧ ∃ c, z.cps.toList[i]? = some c ∧ x = .str ⟨#[c]⟩, fun i _ => z.cps.size ≤ i⟩
theorem turn_str {P : Program} {w : World} {K : PySem.W.Frag} {tg : Expr} (it : Addr) (z : Str) (t : Tok) (ty : String)
    (hW : ∀ A : Around, A.handled = none → Walks P w A it [it] [it] z.cps.size (SignAt z) (fun i h => h.IsStrIter it ty z t i))
    (hn : ["enumerate", "zip", "dict_itemiterator", "dict_reverseitemiterator", "odict_iterator", "itertools.zip_longest", "itertools.pairwise"].contains ty = false)
    (hself : ∀ (A : Around) (i : Nat) (s : Shared) (Q : Value → Shared → Prop) (E : Value → Shared → Prop), s.heap.IsStrIter it ty z t i → Q (.ref it) s → wpAny (model P w) A (pyIter (.ref it)) Q E s) :
    Turn P w K tg (Its z) [it] it (fun i h => i ≤ z.cps.size ∧ h.IsStrIter it ty z t i) where
  mem := by simp
  obj := fun i h st b hb => by
    have e : b = it := by simpa using hb
    subst e
    obtain ⟨_, o, e, c, d⟩ := st
    exact ⟨o, e, fun v z => by rw [d] at z; cases z⟩
  keep := fun i h h' st k => by
    obtain ⟨hi, o, e, r⟩ := st
    exact ⟨hi, o, k it (by simp) o e, r⟩
  item := by
    intro X hP hw hK hc i pins s σ H E I hf st hg
    subst hP hw hK
    obtain ⟨f0, f1, f2, f3, f4, f5⟩ := hf it (by simp)
    refine (hW X.A (I.ok.hd hc)).item i s _ _ hg st.2 fun v h' tk hv st' kk => ?_
    obtain ⟨c, u, hx, rfl⟩ := hv
    have I1 : Inv X pins σ H { s with heap := h', toks := tk } := I.turned (fun b o hb e => kk b o (by simpa using hb) e) f0 f1 f3 f4 f5
    obtain ⟨o, e, hcl, d⟩ := id st'
    exact ⟨_, rfl, go_of (s := { s with heap := h', toks := tk }) e hcl d hn ⟨.str ⟨#[c]⟩, H, I1, ⟨u, rfl⟩, ⟨rfl, c, by simpa using hx, rfl⟩, ⟨hg, st'⟩, fun b hb => (hf b hb).1⟩⟩
  done := by
    intro X hP hw hK hc i pins s σ H E I hf st hg
    subst hP hw hK
    obtain ⟨f0, f1, f2, f3, f4, f5⟩ := hf it (by simp)
    obtain ⟨hi, st⟩ := st
    have e : i = z.cps.size := Nat.le_antisymm hi hg
    subst e
    exact (hW X.A (I.ok.hd hc)).done s _ _ st fun h' tk kk => ⟨rfl, I.turned (fun b o hb e => kk b o (by simpa using hb) e) f0 f1 f3 f4 f5⟩
  self := fun A i s Q E st h => hself A i s Q E st.2 h
noncomputable def iStr (tl : TE) : TI := fun σ H R => tl σ H fun x H1 => ∃ z, x = .str z ∧ R (Its z) H1
theorem pi_str {tg l : Expr} {tl : TE} (hl : PE X l tl) : PI X tg l (iStr tl) := by
  intro pins s σ H R I h
  refine thn (hl pins s σ H _ I h) fun v s1 ⟨x, H1, I1, r1, q1⟩ => ?_
  obtain ⟨z, rfl, q⟩ := q1
  obtain ⟨t, rfl⟩ := r1
  have fin : ∀ (o : Obj) (b : Addr), b ∈ [s1.heap.objs.size] → FpOk X pins H1 b := fun o b hb => by
    have e : b = s1.heap.objs.size := by simpa using hb
    subst e
    exact I1.fpOk (Nat.le_refl _) (I1.hok.fresh (Nat.le_refl _))
  cases ha : z.cps.all (· < 128)
  · refine wpAny_pyIter_wide ha ?_
    exact ⟨s1.heap.objs.size, [s1.heap.objs.size], _, _, H1, rfl, I1.kept (t' := s1.toks) fun b o e => Heap.get?_push_of_some _ e,
      turn_str _ z t "str_iterator" (fun A hA => Walks.strWide hA _ z t) (by decide) (fun A i s Q E st h => wpAny_pyIter_striter_wide st h), ⟨Nat.zero_le _, _, Heap.get?_push_size _ rfl, rfl, rfl⟩, fin default, q⟩
  · refine wpAny_pyIter_ascii ha ?_
    exact ⟨s1.heap.objs.size, [s1.heap.objs.size], _, _, H1, rfl, I1.kept (t' := s1.toks) fun b o e => Heap.get?_push_of_some _ e,
      turn_str _ z t "str_ascii_iterator" (fun A hA => Walks.strAscii hA _ z t) (by decide) (fun A i s Q E st h => wpAny_pyIter_striter_ascii st h), ⟨Nat.zero_le _, _, Heap.get?_push_size _ rfl, rfl, rfl⟩, fin default, q⟩
theorem bls_at {bs : List Bool} : ∀ {us : List Value} {i : Nat} {v : Value}, Vals (bs.map V.bl) us → us[i]? = some v → v = .bool (bs.getD i false) := by
  induction bs with
  | nil => intro us i v r h; rw [List.map_nil] at r; cases r; simp at h
  | cons b bs ih =>
    intro us i v r h
    rw [List.map_cons] at r
    cases r with
    | cons r1 r2 =>
      cases i with
      | zero =>
        have r1' : _ = Value.bool b := r1
        simp at h
        rw [← h, r1']
        rfl
      | succ i => exact ih r2 (by simpa using h)
theorem range_any (bs : List Bool) : (List.range bs.length).any (fun i => bs.getD i false) = bs.any id := by
  have e : (List.range bs.length).map (fun i => bs.getD i false) = bs := by
    apply List.ext_getElem
    · simp
    · intro i h1 h2
      simp [List.getD_eq_getElem?_getD, h2]
  conv => rhs; rw [← e]
  rw [List.any_map]; rfl
noncomputable def rAll (K : PySem.W.Frag) (f : List Bool → Bool) : List V → Hp → VK → Prop := fun xs H Q => ∃ p bs, xs = [.ref p] ∧ SqL K H p (bs.map V.bl) ∧ Q (.bl (f bs)) H
end
end L2

set_option maxHeartbeats 4000000
namespace L2
open PySem PySem.Spec PyProof.Rows
section
variable {X : Cx} {K : PySem.W.Frag}
theorem mt_joinK (h : X.K = K) : MtR X "str.join" (rJoin K) := by subst h; exact mt_join
theorem sl_listK (h : X.K = K) : SlR X (rSlL K) := by subst h; exact sl_list
theorem ix_listK (h : X.K = K) : IxR X (rIxL K) := by subst h; exact ix_list
theorem ix_tupK (h : X.K = K) : IxR X (rIxT K) := by subst h; exact ix_tup
theorem call_instK (h : X.K = K) : CallR X (.builtin "isinstance") (rInst K) := by subst h; exact call_inst
theorem call_lenK (h : X.K = K) : CallR X (.builtin "len") (fun xs H Q => ∃ p ys, xs = [.ref p] ∧ (SqL K H p ys ∨ SqT K H p ys) ∧ Q (.int ys.length) H) := by subst h; exact call_len_seq
theorem pi_listK {tg l : Expr} {tl : TE} (h : X.K = K) (hl : PE X l tl) : PI X tg l (iList K tl) := by subst h; exact pi_list hl
variable {o e : Expr} {es : List Expr} {to : TE} {t : TA} {name : Str} {apos cpos : Pos} {T id : String} {r : V → List V → Hp → VK → Prop}
theorem pe_bmK (h : X.K = K) (pa : PlainAttrs T) (slot : Slot T name id) (hty : typeOf (.builtin id) = pure (.type "method_descriptor")) (hm : MtR X id r) (ho : PE X o to) (ha : PA X (e :: es) t)
    (hbase : attributeBase o name X.env (eval o X.env) = eval o X.env := by rfl)
    (hfew : ((backTo cpos (starEach (e :: es) X.env)).all (fun x => !x.1) && (backToKw cpos (keywordEach [] X.env)).all (fun x => x.1.isSome)
      && decide ((e :: es).length + ([] : List Keyword).length + (if ([] : List Keyword).isEmpty then 0 else 1) < 30)) = true := by rfl)
    (hline : (apos.endLine == cpos.line) = true := by rfl) (hs : starEach (e :: es) X.env = (false, eval e X.env) :: starEach es X.env := by rfl) (hplain : (backTo cpos (starEach es X.env)).any (·.1) = false := by rfl) :
    PE X (.Call (.Attribute o name apos) (e :: es) [] cpos) (tBM K T r to t) := by
  subst h
  exact pe_bm pa slot hty hm ho ha hbase hfew hline hs hplain
end
end L2

set_option maxHeartbeats 4000000
namespace L2
open PySem PySem.Spec PyProof.Rows
structure QS (X : Cx) (st : Stmt) (t : TS) : Prop where
  h : PS X st t
structure QSs (X : Cx) (st : List Stmt) (t : TS) : Prop where
  h : PSs X st t
section
variable {X : Cx} {st : Stmt} {rest : List Stmt} {t u : TS} {e : Expr} {te : TE} {pos : Pos}
theorem qss_nil : QSs X [] tNext := ⟨pss_nil⟩
theorem qss_cons (h1 : QS X st t) (h2 : QSs X rest u) : QSs X (st :: rest) (tSeq t u) := ⟨pss_cons h1.h h2.h⟩
theorem qss_one (h1 : QS X st t) : QSs X [st] t := ⟨pss_one h1.h⟩
theorem qs_expr (he : PE X e te) (hs : swapsWith e none pos.line X.env = pure false := by rfl) : QS X (.Expr e pos) (tDrop te) := ⟨ps_expr he hs⟩
theorem qs_ret (he : PE X e te) : QS X (.Return (some e) pos) (tRet te) := ⟨ps_ret he⟩
theorem qs_if {c : Expr} {a b : List Stmt} {tc : TT} (hc : PT X c tc) (ha : QSs X a t) (hb : QSs X b u) : QS X (.If c a b pos) (tIfS tc t u) := ⟨ps_if hc ha.h hb.h⟩
theorem qs_for {tg iter : Expr} {body : List Stmt} {wi : TI} {g : TG} {tb : TS} (hp : PassesOwn (model X.prog X.w) X.A X.env X.xe) (hc : X.calm = true) (hi : PI X tg iter wi) (hg : PG X tg g) (hb : QSs X body tb) (hs : ∀ x, foldedSetIterable iter X.env x = pure x := by intro _; rfl) : QS X (.For tg iter body [] pos) (tFor wi g tb) := ⟨ps_for hp hc hi hg hb.h hs⟩
theorem qs_asg {tg : Expr} {g : TG} (he : PE X e te) (hg : PG X tg g) (hs : swapsWithSole [tg] e pos.line X.env = pure false := by rfl) (hw : swappedStores [tg] e X.env = pure none := by rfl)
    (h1 : (assignEach [tg] X.env).map (·.2) = [assign tg X.env] := by rfl) : QS X (.Assign [tg] e pos) (tAsg te g) := ⟨ps_asg he hg hs hw h1⟩
theorem qs_set {i : Nat} {x : Str} {pos' : Pos} (hN : X.N.Nodup) (hi : X.N[i]? = some x) (hx : Loc X.env.scope x) (he : PE X e te) (hs : swapsWith e (some (.Name x pos')) pos.line X.env = pure false := by rfl) (hf : X.fn x = true ∨ X.env.scope.names.lookup x = some .local := by first | exact .inl rfl | exact .inr rfl | assumption) :
    QS X (.Assign [.Name x pos'] e pos) (tAsg te (gName i)) := ⟨ps_set hN hi hx he hs hf⟩
end
section
variable {X : Cx} {N : List Str} {sc : Scope} {el tg src : Expr} {ifs : List Expr} {wi : TI} {g : TG} {tf : TT} {te : TE} {pos : Pos}
theorem qs_comp (ix : List (Option Nat)) {i : Nat} {x : Str} {pos' spos : Pos} (hN : X.N.Nodup) (hxi : X.N[i]? = some x) (hx : Loc X.env.scope x) (hc : X.calm = true) (hb : blkOk X.env.scope X.N N ix sc = true) (hi : PI X tg src wi)
    (hg : ∀ cl C fp s H, PG (blk X N sc cl C fp s H) tg g) (hf : ∀ cl C fp s H, PF (blk X N sc cl C fp s H) ifs tf) (he : ∀ cl C fp s H, PE (blk X N sc cl C fp s H) el te)
    (hsw : swapsWith (.ListComp el [⟨tg, src, ifs, 0⟩] sc pos) (some (.Name x pos')) spos.line X.env = pure true := by rfl)
    (hfn : X.fn x = true ∨ X.env.scope.names.lookup x = some .local := by first | exact .inl rfl | exact .inr rfl | assumption)
    (hs : ∀ x, foldedSetIterable src X.env x = pure x := by intro _; rfl) : QS X (.Assign [.Name x pos'] (.ListComp el [⟨tg, src, ifs, 0⟩] sc pos) spos) (tAsg (tComp ix wi g tf te) (gName i)) :=
  ⟨ps_comp ix hN hxi hx hc hb hi hg hf he hsw hfn hs⟩
end
structure QA (X : Cx) (es : List Expr) (t : TA) : Prop where
  h : PA X es t
section
variable {X : Cx} {e : Expr} {es : List Expr} {te : TE} {t : TA} {pos : Pos}
theorem qa_nil : QA X [] tNil := ⟨pa_nil⟩
theorem qa_cons (ha : PE X e te) (hr : QA X es t) (hs : starEach (e :: es) X.env = (false, eval e X.env) :: starEach es X.env := by rfl) : QA X (e :: es) (tCons te t) := ⟨pa_cons ha hr.h hs⟩
theorem qe_lst (h : QA X es t) : PE X (.List es pos) (tLst t) := pe_lst h.h
end
section
variable {X : Cx} {a b e : Expr} {ta tb te : TE} {es : List Expr} {t : TA} {pos : Pos}
end
end L2

set_option maxHeartbeats 4000000
namespace L2
open PySem PySem.Spec PyProof.Rows
section
variable {X : Cx} {x : Str} {pos : Pos}
theorem pgl_int {y : Int} (h : ∃ t, X.mg x = some (.int y t)) (hg : Gl X x := by rfl) (hd : (x == ("__debug__" : Str)) = false := by decide) : PE X (.Name x pos) (tC (.int y)) := by
  obtain ⟨t, e⟩ := h
  exact pe_glob hg e ⟨t, rfl⟩ hd
end
end L2
namespace Mine
open PySem PySem.Spec PyProof.Rows L2 PySem.Builtin PySem.Builtin.Str
theorem appLen (a b : Str) : (a ++ b).length = a.length + b.length := by rw [strLen, strLen, strLen, strApp, List.length_append]
theorem line_big : 1000 ≤ sizeLine := by decide
end Mine
namespace L2
open PySem PySem.Spec PyProof.Rows
theorem iteTb {b : Bool} {A B : Prop} (e : b = true) (h : A) : if b = true then A else B := by rw [if_pos e]; exact h
theorem iteFb {b : Bool} {A B : Prop} (e : b = false) (h : B) : if b = true then A else B := by rw [if_neg (by rw [e]; decide)]; exact h
theorem iteNTb {b : Bool} {A B : Prop} (e : b = true) (h : B) : if (!b) = true then A else B := by rw [if_neg (by rw [e]; decide)]; exact h
theorem iteNFb {b : Bool} {A B : Prop} (e : b = false) (h : A) : if (!b) = true then A else B := by rw [if_pos (by rw [e]; decide)]; exact h
end L2

set_option maxHeartbeats 4000000
namespace Mine
open PySem PySem.Spec PyProof.Rows L2 PySem.Builtin PySem.Builtin.Str
noncomputable def figs : Str := "0123456789"
noncomputable def zero : Str := "0"
noncomputable def inF (c : Nat) : Bool := !(Builtin.Str.occurrences figs (⟨#[c]⟩ : Str) 0 figs.length 1).isEmpty
theorem inF_dig {c : Nat} (h0 : 48 ≤ c) (h1 : c ≤ 57) : inF c = true := by
  have h : ∀ n : Fin 10, inF (48 + n.val) = true := by decide +kernel
  have := h ⟨c - 48, by omega⟩
  rwa [show 48 + (⟨c - 48, by omega⟩ : Fin 10).val = c from by show 48 + (c - 48) = c; omega] at this
noncomputable def numB (z : Str) : Bool := decide (1 ≤ z.length) && decide (z.length ≤ 20) && !(decide (z.cps.toList.head? = some 48) && !decide (z = zero)) && z.cps.toList.all inF
noncomputable def numS (m : Nat) : Str := Str.ofString (toString ((m : Nat) : Int))
theorem numS_codes (m : Nat) : (numS m).cps.toList = (Nat.toDigits 10 m).map Char.toNat := PySem.W.KIN.signs_num m
theorem digit_range {m : Nat} {c : Nat} (h : c ∈ (numS m).cps.toList) : 48 ≤ c ∧ c ≤ 57 := by
  rw [numS_codes] at h
  obtain ⟨d, hd, rfl⟩ := List.mem_map.mp h
  have := Nat.isDigit_of_mem_toDigits (by decide) (by decide) hd
  unfold Char.isDigit at this
  simp only [Bool.and_eq_true, decide_eq_true_eq] at this
  exact ⟨this.1, this.2⟩
theorem digits_head : ∀ m : Nat, (Nat.toDigits 10 m).head? = some '0' → m = 0 := by
  intro m
  induction m using Nat.strongRecOn with
  | _ m ih =>
    intro h
    by_cases hm : m < 10
    · rw [Nat.toDigits_of_lt_base hm] at h
      have h' : Nat.digitChar m = '0' := by simpa using h
      have : ∀ n : Fin 10, Nat.digitChar n.val = '0' → n.val = 0 := by decide
      exact this ⟨m, hm⟩ h'
    · have hd : m % 10 < 10 := Nat.mod_lt m (by decide)
      have t : Nat.toDigits 10 (m / 10) ++ Nat.toDigits 10 (m % 10) = Nat.toDigits 10 (10 * (m / 10) + m % 10) := Nat.toDigits_append_toDigits (by decide) (by omega) hd
      rw [Nat.div_add_mod] at t
      rw [← t] at h
      have hne : Nat.toDigits 10 (m / 10) ≠ [] := Nat.toDigits_ne_nil
      cases e : Nat.toDigits 10 (m / 10) with
      | nil => exact absurd e hne
      | cons a r =>
        rw [e] at h
        have := ih (m / 10) (by omega) (by rw [e]; simpa using h)
        omega
theorem char_toNat_inj {a b : Char} (h : a.toNat = b.toNat) : a = b := by
  apply Char.ext
  exact UInt32.toNat_inj.mp h
theorem numS_zero : numS 0 = zero := by decide +kernel
theorem numS_ok {m : Nat} (h : m < 10 ^ 20) : numB (numS m) = true ∧ (numS m).length ≤ 20 ∧ 1 ≤ (numS m).length ∧ intText? (numS m) = some ((m : Nat) : Int) := by
  have hl : (numS m).length = (Nat.toDigits 10 m).length := by rw [strLen, numS_codes, List.length_map]
  have h1 : 1 ≤ (numS m).length := by rw [hl]; exact Nat.length_toDigits_pos
  have h2 : (numS m).length ≤ 20 := by rw [hl]; exact (Nat.length_toDigits_le_iff (by decide) (by decide)).mpr h
  refine ⟨?_, h2, h1, ?_⟩
  · unfold numB
    rw [decide_eq_true h1, decide_eq_true h2, List.all_eq_true.mpr fun c hc => inF_dig (digit_range hc).1 (digit_range hc).2]
    by_cases hd : (numS m).cps.toList.head? = some 48
    · have hm : m = 0 := by
        rw [numS_codes, List.head?_map] at hd
        cases e : (Nat.toDigits 10 m).head? with
        | none => rw [e] at hd; cases hd
        | some d =>
          rw [e] at hd
          have : d = '0' := char_toNat_inj (by simpa using hd)
          rw [this] at e
          exact digits_head m e
      subst hm
      rw [numS_zero, decide_eq_true (rfl : zero = zero)]
      decide +kernel
    · rw [decide_eq_false hd]; rfl
  · rw [intText_digits (fun c hc => digit_range hc) (fun z => by rw [strLen, z] at h1; simp at h1) (by omega), numS_codes, PySem.W.KIN.val_back]
theorem dotted_letter {ys : List Str} (h0 : ys ≠ []) (h : ∀ y ∈ ys, IsNm y) : ∃ c ∈ (dotted ys).cps.toList, 97 ≤ c ∧ c ≤ 122 := by
  cases ys with
  | nil => exact absurd rfl h0
  | cons y r =>
    have hy := h y List.mem_cons_self
    cases e : y.cps.toList with
    | nil => have := hy.lo; rw [strLen, e] at this; simp at this
    | cons c q =>
      have hc : c ∈ y.cps.toList := by rw [e]; simp
      refine ⟨c, ?_, hy.ok c hc⟩
      rw [dotted_join, join_codes]
      obtain ⟨R, e1, _⟩ := inter_tail 46 y.cps.toList (r.map (·.cps.toList))
      rw [List.map_cons, e1]
      exact List.mem_append_left _ hc
noncomputable def brk : Str := "()"
end Mine

set_option maxHeartbeats 4000000
namespace L2
open PySem PySem.Spec PyProof.Rows
inductive DEq (K : PySem.W.Frag) (H : Hp) : Nat → V → V → Prop where
  | non {n : Nat} : DEq K H n .non .non
  | bl {n : Nat} (b : Bool) : DEq K H n (.bl b) (.bl b)
  | int {n : Nat} (i : Int) : DEq K H n (.int i) (.int i)
  | str {n : Nat} (x : Str) : DEq K H n (.str x) (.str x)
  | same {n : Nat} (a : Addr) : DEq K H n (.ref a) (.ref a)
  | tup {n : Nat} {a b : Addr} {xs ys : List V} (ha : SqT K H a xs) (hb : SqT K H b ys) (hl : xs.length = ys.length) (h : ∀ (i : Nat) x y, xs[i]? = some x → ys[i]? = some y → DEq K H n x y) : DEq K H (n + 1) (.ref a) (.ref b)
  | lst {n : Nat} {a b : Addr} {xs ys : List V} (ha : SqL K H a xs) (hb : SqL K H b ys) (hl : xs.length = ys.length) (h : ∀ (i : Nat) x y, xs[i]? = some x → ys[i]? = some y → DEq K H n x y) : DEq K H (n + 1) (.ref a) (.ref b)
section
variable {X : Cx} {pins : List (Addr × Obj)} {σ : St} {H : Hp} {s : Shared}
theorem Vals.at {xs : List V} {us : List Value} (r : Vals xs us) {j : Nat} (h : j < us.length) : ∃ x, xs[j]? = some x ∧ RelV x us[j] := by
  have hl := r.length
  have hx : xs[j]? = some xs[j] := List.getElem?_eq_getElem (by omega)
  obtain ⟨u, hu, ru⟩ := r.get hx
  rw [List.getElem?_eq_getElem h] at hu
  cases hu
  exact ⟨_, hx, ru⟩
theorem all_true (n : Nat) : (List.range n).all (fun _ => true) = true := by simp
theorem DEq.at (I : Inv X pins σ H s) {n : Nat} {x y : V} (d : DEq X.K H n x y) : ∀ {A : Around} {u v : Value}, A.units + n < cLine → RelV x u → RelV y v → SeqAt.EqAt A s u v true := by
  induction d with
  | non => intro A u v hu ru rv; cases ru; cases rv; exact SeqAt.EqAt.same _
  | bl b => intro A u v hu ru rv; cases ru; cases rv; exact SeqAt.EqAt.same _
  | int i =>
    intro A u v hu ru rv
    obtain ⟨t, rfl⟩ := ru
    obtain ⟨t', rfl⟩ := rv
    have := SeqAt.EqAt.int_int (A := A) (s := s) i t i t'
    rwa [beq_self_eq_true] at this
  | str x =>
    intro A u v hu ru rv
    obtain ⟨t, rfl⟩ := ru
    obtain ⟨t', rfl⟩ := rv
    have := SeqAt.EqAt.str_str (A := A) (s := s) x t x t'
    rwa [beq_self_eq_true] at this
  | same a => intro A u v hu ru rv; cases ru; cases rv; exact SeqAt.EqAt.same _
  | @tup n a b xs ys ha hb hl h ih =>
    intro A u v hu ru rv
    cases ru; cases rv
    by_cases hab : a = b
    · subst hab; exact SeqAt.EqAt.same _
    · obtain ⟨us, r1, p1, _⟩ := I.tuple ha
      obtain ⟨ws, r2, p2, _⟩ := I.tuple hb
      have l1 := r1.length
      have l2 := r2.length
      have := SeqAt.RcAt.tuples (A := A) (s := s) (e := fun _ => true) (show s.heap.IsTuple a us.toArray from p1) (show s.heap.IsTuple b ws.toArray from p2) (by omega) fun j h1 h2 => by
        have h1' : j < us.length := by simpa using h1
        have h2' : j < ws.length := by simpa using h2
        obtain ⟨x, ex, rx⟩ := r1.at h1'
        obtain ⟨y, ey, ry⟩ := r2.at h2'
        exact ih j x y ex ey (A := A.in1) (show A.units + 1 + n < cLine by omega) (by simpa using rx) (by simpa using ry)
      rw [all_true, show (us.toArray.size == ws.toArray.size) = true from by simp; omega] at this
      exact SeqAt.EqAt.of_refs hab this
  | @lst n a b xs ys ha hb hl h ih =>
    intro A u v hu ru rv
    cases ru; cases rv
    by_cases hab : a = b
    · subst hab; exact SeqAt.EqAt.same _
    · obtain ⟨us, r1, p1, _⟩ := I.list ha
      obtain ⟨ws, r2, p2, _⟩ := I.list hb
      have l1 := r1.length
      have l2 := r2.length
      have := SeqAt.RcAt.lists (A := A) (s := s) (e := fun _ => true) p1.isList p2.isList (by simp; omega) (by omega) fun j h1 h2 => by
        have h1' : j < us.length := by simpa using h1
        have h2' : j < ws.length := by simpa using h2
        obtain ⟨x, ex, rx⟩ := r1.at h1'
        obtain ⟨y, ey, ry⟩ := r2.at h2'
        exact ih j x y ex ey (A := A.in1) (show A.units + 1 + n < cLine by omega) (by simpa using rx) (by simpa using ry)
      rw [all_true] at this
      exact SeqAt.EqAt.of_refs hab this
noncomputable def DSq (K : PySem.W.Frag) (H : Hp) (a b : Addr) : Prop := ∃ (n : Nat) (xs ys : List V), n ≤ 60 ∧ xs.length = ys.length ∧ ((SqT K H a xs ∧ SqT K H b ys) ∨ (SqL K H a xs ∧ SqL K H b ys)) ∧ ∀ (i : Nat) x y, xs[i]? = some x → ys[i]? = some y → DEq K H n x y
noncomputable def rEqD (K : PySem.W.Frag) (r : Bool) : R2 := fun x y H Q => ∃ a b, x = .ref a ∧ y = .ref b ∧ DSq K H a b ∧ Q (.bl r) H
theorem op_neD {K : PySem.W.Frag} (hK : X.K = K) (hu : X.A.units + 64 < cLine) : OpR X (compareOp .NotEq) (rEqD K false) := by
  subst hK
  intro pins s σ H x y v u Q I rx ry h
  obtain ⟨a, b, rfl, rfl, ⟨n, xs, ys, hn, hl, hs, hd⟩, q⟩ := h
  cases rx; cases ry
  have fin : EP X pins σ Q (.bool false) s := ⟨.bl false, H, I, rfl, q⟩
  rcases hs with ⟨ha, hb⟩ | ⟨ha, hb⟩
  · obtain ⟨us, r1, p1, _⟩ := I.tuple ha
    obtain ⟨ws, r2, p2, _⟩ := I.tuple hb
    have l1 := r1.length
    have l2 := r2.length
    have := SeqAt.RcNeAt.tuples (A := X.A) (s := s) (e := fun _ => true) (show s.heap.IsTuple a us.toArray from p1) (show s.heap.IsTuple b ws.toArray from p2) (by omega) fun j h1 h2 => by
      have h1' : j < us.length := by simpa using h1
      have h2' : j < ws.length := by simpa using h2
      obtain ⟨x, ex, rx⟩ := r1.at h1'
      obtain ⟨y, ey, ry⟩ := r2.at h2'
      exact DEq.at I (hd j x y ex ey) (A := X.A.in1) (show X.A.units + 1 + n < cLine by omega) (by simpa using rx) (by simpa using ry)
    rw [all_true, show (us.toArray.size == ws.toArray.size) = true from by simp; omega] at this
    exact this X.prog X.w X.xe _ fin
  · obtain ⟨us, r1, p1, _⟩ := I.list ha
    obtain ⟨ws, r2, p2, _⟩ := I.list hb
    have l1 := r1.length
    have l2 := r2.length
    have := SeqAt.RcNeAt.lists (A := X.A) (s := s) (e := fun _ => true) p1.isList p2.isList (by simp; omega) (by omega) fun j h1 h2 => by
      have h1' : j < us.length := by simpa using h1
      have h2' : j < ws.length := by simpa using h2
      obtain ⟨x, ex, rx⟩ := r1.at h1'
      obtain ⟨y, ey, ry⟩ := r2.at h2'
      exact DEq.at I (hd j x y ex ey) (A := X.A.in1) (show X.A.units + 1 + n < cLine by omega) (by simpa using rx) (by simpa using ry)
    rw [all_true] at this
    exact this X.prog X.w X.xe _ fin
end
section
variable {X : Cx} {K : PySem.W.Frag}
theorem pg_tupK {es : List Expr} {k : Nat} {t : TGs} {n : Nat} {pos : Pos} (hK : X.K = K) (hc : X.calm = true) (h : PGs X es t)
    (hn : (assignEach es X.env).length = n := by rfl) (hst : (assignEach es X.env).findIdx? (·.1) = none := by rfl) : PG X (.Tuple es k pos) (gTup K n t) := by subst hK; exact pg_tup hc h hn hst
end
end L2

set_option maxHeartbeats 4000000
namespace L2
open PySem PySem.Spec PyProof.Rows
section
variable {X : Cx} {K : PySem.W.Frag} {tg : Expr}
end
section
variable {X : Cx} {K : PySem.W.Frag}
theorem call_any (hc : X.calm = true) : CallR X (.builtin "any") (rAll X.K fun bs => bs.any id) := by
  intro pins s σ H xs us Q I r h
  obtain ⟨p, bs, rfl, hq, q⟩ := h
  obtain ⟨u, rfl, rx⟩ := vals1 r
  cases (show u = Value.ref p from rx)
  obtain ⟨its, rv, pl, hz⟩ := I.list hq
  have hlen := rv.length
  rw [List.length_map] at hlen
  have hne : p ≠ s.heap.objs.size := by
    obtain ⟨o, e, _⟩ := pl.isList
    exact Nat.ne_of_lt (Heap.lt_size e)
  refine call_any_walk (wpAny_pyIter_list pl.isList ?_)
  refine ⟨s.heap.objs.size, _, _, _, _, _, fun i => bs.getD i false, rfl, Walks.list (show X.A.in1.handled = none from I.ok.hd hc) s.heap.objs.size p hne its.toArray, ⟨⟨_, Heap.get?_push_size _ rfl, rfl, rfl⟩, ?_⟩, fun i v s' Q' E' hP hQ => ?_, fun h' tk kk => ?_⟩
  · exact pl.isList.at fun o e => Heap.get?_push_of_some _ e
  · have e := bls_at rv (by simpa using hP)
    subst e
    exact wpAny_truthy_bool hQ
  · have e : (List.range its.toArray.size).any (fun i => bs.getD i false) = bs.any id := by rw [List.size_toArray, ← hlen]; exact range_any bs
    rw [e]
    refine ⟨.bl _, H, I.kept fun b o e => ?_, rfl, q⟩
    exact kk b o (fun z => absurd (Heap.lt_size e) (by rw [List.mem_singleton.mp z]; exact Nat.lt_irrefl _)) (Heap.get?_push_of_some _ e)
end
theorem comp_listF {K : PySem.W.Frag} {a : Addr} {xs : List V} {tf : TT} {te : TE} {τ0 : St} {H : Hp} {Fin : List V → Hp → Prop} (p : V → Bool) (hn : xs.length ≤ sizeLine) (hl : SqL K H a xs)
    (htf : ∀ x H' (Q : Bool → Hp → Prop), x ∈ xs → Same H H' → (∀ H'', Same H' H'' → Q (p x) H'') → tf (τ0.set 0 (some x)) H' Q)
    (hte : ∀ x H' (Q : VK), x ∈ xs → Same H H' → (∀ H'', Same H' H'' → Q x H'') → te (τ0.set 0 (some x)) H' Q)
    (hfin : ∀ H', Same H H' → Fin (xs.filter p) H') : CompW (gName 0) tf te (Itl K a) τ0 H Fin := by
  refine ⟨fun i m τ ys H' => m = xs.length - i ∧ i ≤ xs.length ∧ ys = (xs.take i).filter p ∧ Same H H' ∧ ∃ v, τ = τ0.set 0 v ∨ τ = τ0, ⟨xs.length, rfl, Nat.zero_le _, rfl, Same.refl _, none, .inr rfl⟩, ?_⟩
  rintro i m τ ys H' ⟨rfl, hi, rfl, sm, v, hτ⟩
  by_cases hlt : i < xs.length
  · refine .inr ⟨⟨xs, xs[i], sm.seq hl, by simp [hlt]⟩, fun x H'' y => ?_⟩
    obtain ⟨e, y⟩ := y
    subst e
    have hx := y xs (sm.seq hl)
    have e2 : τ.set 0 (some x) = τ0.set 0 (some x) := by
      rcases hτ with rfl | rfl
      · rw [List.set_set]
      · rfl
    unfold gName
    rw [e2]
    have e3 : (xs.take (i + 1)).filter p = (xs.take i).filter p ++ (if p x = true then [x] else []) := by
      rw [List.take_add_one, hx, List.filter_append]
      congr 1
      show [x].filter p = _
      rw [List.filter_cons]
      rfl
    refine htf x H'' _ (List.mem_of_getElem? hx) sm fun H4 s4 => ?_
    cases hp : p x with
    | true =>
      rw [if_pos rfl]
      refine hte x H4 _ (List.mem_of_getElem? hx) (sm.trans s4) fun H5 s5 => ?_
      refine ⟨?_, xs.length - (i + 1), by omega, rfl, hlt, ?_, sm.trans (s4.trans s5), _, .inl rfl⟩
      · have := List.length_filter_le p (xs.take i)
        rw [List.length_take] at this
        omega
      · rw [e3, hp]; rfl
    | false =>
      rw [if_neg (by decide)]
      refine ⟨xs.length - (i + 1), by omega, rfl, hlt, ?_, sm.trans s4, _, .inl rfl⟩
      rw [e3, hp]; simp
  · have e : i = xs.length := by omega
    subst e
    exact .inl ⟨⟨xs, sm.seq hl, Nat.le_refl _⟩, by have := hfin H' sm; rw [List.take_length]; exact this⟩
end L2

set_option maxHeartbeats 4000000
namespace Mine
open PySem PySem.Spec PyProof.Rows L2 PySem.Builtin PySem.Builtin.Str
inductive Thg where
  | num (m : Nat)
  | nms (c : Bool) (ys : List Str)
structure Trm where
  sg : Int
  th : Thg
noncomputable def kindOf : Thg → Str
  | .num _ => "number"
  | .nms c _ => if c = true then "call" else "path"
noncomputable def wordOf : Thg → Str
  | .num m => numS m
  | .nms c ys => if c = true then dotted ys ++ brk else dotted ys
noncomputable def sgw (s : Int) : Str := if s = 1 then "+" else "-"
noncomputable def wordsOf : List Trm → List Str
  | [] => []
  | t :: r => wordOf t.th :: (r.map fun t => [sgw t.sg, wordOf t.th]).flatten
noncomputable def textOf (ts : List Trm) : Str := Str.join ⟨#[32]⟩ (wordsOf ts)
structure GoodN (ys : List Str) : Prop where
  lo : ys ≠ []
  hi : ys.length ≤ 4
  nm : ∀ y ∈ ys, IsNm y
noncomputable def GoodTh : Thg → Prop
  | .num m => m < 10 ^ 20
  | .nms _ ys => GoodN ys
structure GoodT (t : Trm) : Prop where
  sg : t.sg = 1 ∨ t.sg = -1
  th : GoodTh t.th
structure GoodTs (ts : List Trm) : Prop where
  lo : ts ≠ []
  hi : ts.length ≤ 6
  ok : ∀ t ∈ ts, GoodT t
  hd : ∀ t, ts.head? = some t → t.sg = 1
theorem brk_len : brk.length = 2 := by decide +kernel
theorem GoodN.len {ys : List Str} (h : GoodN ys) : (dotted ys).length ≤ 36 := by
  have h1 := dotted_len ys
  have h2 : (ys.map (·.length)).sum ≤ ys.length * 8 := sum_le fun y hy => (h.nm y hy).hi
  have := h.hi
  omega
theorem word_len {th : Thg} (h : GoodTh th) : (wordOf th).length ≤ 38 := by
  cases th with
  | num m => exact Nat.le_trans (numS_ok h).2.1 (by decide)
  | nms c ys =>
    have := GoodN.len h
    cases c with
    | true => show (dotted ys ++ brk).length ≤ 38; rw [appLen, brk_len]; omega
    | false => show (dotted ys).length ≤ 38; omega
theorem plus_codes : (("+" : Str)).cps.toList = [43] := by decide +kernel
theorem minus_codes : (("-" : Str)).cps.toList = [45] := by decide +kernel
theorem sgw_codes (s : Int) : (sgw s).cps.toList = [43] ∨ (sgw s).cps.toList = [45] := by
  unfold sgw; split
  · exact .inl plus_codes
  · exact .inr minus_codes
theorem sgw_len (s : Int) : (sgw s).length = 1 := by
  rw [strLen]; rcases sgw_codes s with e | e <;> rw [e] <;> rfl
theorem wordsOf_mem {ts : List Trm} {x : Str} (h : x ∈ wordsOf ts) : (∃ t ∈ ts, x = wordOf t.th) ∨ ∃ t ∈ ts, x = sgw t.sg := by
  cases ts with
  | nil => simp [wordsOf] at h
  | cons t r =>
    rcases List.mem_cons.mp h with h | h
    · exact .inl ⟨t, List.mem_cons_self, h⟩
    · obtain ⟨l, hl, hx⟩ := List.mem_flatten.mp h
      obtain ⟨u, hu, rfl⟩ := List.mem_map.mp hl
      simp only [List.mem_cons, List.not_mem_nil, or_false] at hx
      rcases hx with hx | hx
      · exact .inr ⟨u, List.mem_cons_of_mem _ hu, hx⟩
      · exact .inl ⟨u, List.mem_cons_of_mem _ hu, hx⟩
theorem flat_len (r : List Trm) : ((r.map fun t => [sgw t.sg, wordOf t.th]).flatten).length = 2 * r.length := by
  induction r with
  | nil => rfl
  | cons t r ih => rw [List.map_cons, List.flatten_cons, List.length_append, ih]; simp; omega
theorem wordsOf_len {ts : List Trm} (h : ts ≠ []) : (wordsOf ts).length = 2 * ts.length - 1 := by
  cases ts with
  | nil => exact absurd rfl h
  | cons t r => show (_ :: _).length = _; rw [List.length_cons, flat_len, List.length_cons]; omega
theorem textOf_len {ts : List Trm} (h : ∀ t ∈ ts, GoodT t) : (textOf ts).length ≤ 80 * ts.length := by
  unfold textOf
  have h1 := StrLaws.join_length_le ⟨#[32]⟩ (wordsOf ts)
  have e : (⟨#[32]⟩ : Str).length = 1 := rfl
  rw [e] at h1
  have h2 : ((wordsOf ts).map (·.length)).sum ≤ (wordsOf ts).length * 38 := sum_le fun y hy => by
    rcases wordsOf_mem hy with ⟨t, ht, rfl⟩ | ⟨t, ht, rfl⟩
    · exact word_len (h t ht).th
    · rw [sgw_len]; decide
  cases ts with
  | nil => exact Nat.le_of_eq rfl
  | cons t r =>
    have := wordsOf_len (ts := t :: r) (by simp)
    omega
end Mine

set_option maxHeartbeats 4000000
namespace L2
open PySem PySem.Spec PyProof.Rows
theorem comp_rangeP {lo : Int} {n : Nat} {te : TE} {τ0 : St} {H : Hp} {Fin : List V → Hp → Prop} (R : Nat → V → Hp → Prop) (hm : ∀ i v H' H'', R i v H' → Same H' H'' → R i v H'') (hn : n ≤ sizeLine)
    (hte : ∀ (i : Nat) H' (Q : VK), i < n → Same H H' → (∀ v H'', Same H' H'' → R i v H'' → Q v H'') → te (τ0.set 0 (some (.int (lo + i)))) H' Q)
    (hfin : ∀ ys H', Same H H' → ys.length = n → (∀ (i : Nat) v, ys[i]? = some v → R i v H') → Fin ys H') : CompW (gName 0) tYes te (Itr lo n) τ0 H Fin := by
  refine ⟨fun i m τ ys H' => m = n - i ∧ i ≤ n ∧ ys.length = i ∧ (∀ (j : Nat) v, ys[j]? = some v → R j v H') ∧ Same H H' ∧ ∃ v, τ = τ0.set 0 v ∨ τ = τ0, ⟨n, rfl, Nat.zero_le _, rfl, fun j v h => by simp at h, Same.refl _, none, .inr rfl⟩, ?_⟩
  rintro i m τ ys H' ⟨rfl, hi, hl, hr, sm, v, hτ⟩
  by_cases hlt : i < n
  · refine .inr ⟨hlt, fun x H'' y => ?_⟩
    obtain ⟨e, y⟩ := y
    subst e y
    have e2 : τ.set 0 (some (V.int (lo + i))) = τ0.set 0 (some (V.int (lo + i))) := by
      rcases hτ with rfl | rfl
      · rw [List.set_set]
      · rfl
    unfold gName tYes
    rw [e2]
    dsimp only
    rw [if_pos rfl]
    refine hte i H'' _ hlt sm fun v H4 s4 hv => ?_
    refine ⟨by omega, n - (i + 1), by omega, rfl, hlt, by rw [List.length_append, hl]; rfl, fun j u hj => ?_, sm.trans s4, _, .inl rfl⟩
    by_cases hji : j < ys.length
    · rw [List.getElem?_append_left hji] at hj
      exact hm _ _ _ _ (hr j u hj) s4
    · rw [List.getElem?_append_right (by omega)] at hj
      have hj0 : j - ys.length = 0 := by
        cases hh : j - ys.length with
        | zero => rfl
        | succ k => rw [hh] at hj; simp at hj
      rw [hj0] at hj
      have : j = i := by omega
      subst this
      have : v = u := by simpa using hj
      subst this
      exact hv
  · have e : i = n := by omega
    subst e
    exact .inl ⟨Nat.le_refl _, hfin ys H' sm hl hr⟩
theorem comp_listI {K : PySem.W.Frag} {a : Addr} {xs : List V} {te : TE} {τ0 : St} {H : Hp} {Fin : List V → Hp → Prop} (f : Nat → V) (hn : xs.length ≤ sizeLine) (hl : SqL K H a xs)
    (hte : ∀ (i : Nat) x H' (Q : VK), xs[i]? = some x → Same H H' → (∀ H'', Same H' H'' → Q (f i) H'') → te (τ0.set 0 (some x)) H' Q)
    (hfin : ∀ H', Same H H' → Fin ((List.range xs.length).map f) H') : CompW (gName 0) tYes te (Itl K a) τ0 H Fin := by
  refine ⟨fun i m τ ys H' => m = xs.length - i ∧ i ≤ xs.length ∧ ys = (List.range i).map f ∧ Same H H' ∧ ∃ v, τ = τ0.set 0 v ∨ τ = τ0, ⟨xs.length, rfl, Nat.zero_le _, rfl, Same.refl _, none, .inr rfl⟩, ?_⟩
  rintro i m τ ys H' ⟨rfl, hi, rfl, sm, v, hτ⟩
  by_cases hlt : i < xs.length
  · refine .inr ⟨⟨xs, xs[i], sm.seq hl, by simp [hlt]⟩, fun x H'' y => ?_⟩
    obtain ⟨e, y⟩ := y
    subst e
    have hx := y xs (sm.seq hl)
    have e2 : τ.set 0 (some x) = τ0.set 0 (some x) := by
      rcases hτ with rfl | rfl
      · rw [List.set_set]
      · rfl
    unfold gName tYes
    rw [e2]
    dsimp only
    rw [if_pos rfl]
    refine hte i x H'' _ hx sm fun H4 s4 => ?_
    exact ⟨by rw [List.length_map, List.length_range]; omega, xs.length - (i + 1), by omega, rfl, hlt, by rw [List.range_succ, List.map_append]; rfl, sm.trans s4, _, .inl rfl⟩
  · have e : i = xs.length := by omega
    subst e
    exact .inl ⟨⟨xs, sm.seq hl, Nat.le_refl _⟩, hfin H' sm⟩
end L2
namespace Mine
open PySem PySem.Spec PyProof.Rows L2 PySem.Builtin PySem.Builtin.Str
noncomputable def ThAt (H : Hp) (x : V) : Thg → Prop
  | .num m => x = .int ((m : Nat) : Int)
  | .nms _ ys => ∃ q, x = .ref q ∧ H q = some (.tup (ys.map V.str))
noncomputable def TmAt (H : Hp) (v : V) (t : Trm) : Prop := ∃ p x, v = .ref p ∧ H p = some (.tup [.int t.sg, .str (kindOf t.th), x]) ∧ ThAt H x t.th
noncomputable def TmsAt (H : Hp) (l : Addr) (ts : List Trm) : Prop := ∃ xs, H l = some (.lst xs) ∧ xs.length = ts.length ∧ ∀ (i : Nat) x, xs[i]? = some x → ∃ t, ts[i]? = some t ∧ TmAt H x t
theorem ThAt.same {H H' : Hp} {x : V} {th : Thg} (h : ThAt H x th) (s : Same H H') : ThAt H' x th := by
  cases th with
  | num m => exact h
  | nms c ys => obtain ⟨q, e, hq⟩ := h; exact ⟨q, e, s _ _ hq⟩
theorem TmAt.same {H H' : Hp} {v : V} {t : Trm} (h : TmAt H v t) (s : Same H H') : TmAt H' v t := by
  obtain ⟨p, x, e, hp, hx⟩ := h
  exact ⟨p, x, e, s _ _ hp, hx.same s⟩
theorem TmsAt.same {H H' : Hp} {l : Addr} {ts : List Trm} (h : TmsAt H l ts) (s : Same H H') : TmsAt H' l ts := by
  obtain ⟨xs, hl, hn, hx⟩ := h
  refine ⟨xs, s _ _ hl, hn, fun i x e => ?_⟩
  obtain ⟨t, ht, tm⟩ := hx i x e
  exact ⟨t, ht, tm.same s⟩
theorem TmAt.upd {H : Hp} {v : V} {t : Trm} {l : Addr} {ys : List V} {o : HO} (h : TmAt H v t) (hl : H l = some (.lst ys)) : TmAt (upd H l o) v t := by
  obtain ⟨p, x, e, hp, hx⟩ := h
  refine ⟨p, x, e, by rw [upd_ne (ne_of hp hl (by intro z; cases z))]; exact hp, ?_⟩
  cases hth : t.th with
  | num m => rw [hth] at hx; exact hx
  | nms c zs =>
    rw [hth] at hx
    obtain ⟨q, e, hq⟩ := hx
    exact ⟨q, e, by rw [upd_ne (ne_of hq hl (by intro z; cases z))]; exact hq⟩
theorem ThAt.deq {K : PySem.W.Frag} {H : Hp} {x y : V} {th : Thg} (h1 : ThAt H x th) (h2 : ThAt H y th) : DEq K H 1 x y := by
  cases th with
  | num m => cases h1; cases h2; exact .int _
  | nms c ys =>
    obtain ⟨q, rfl, hq⟩ := h1
    obtain ⟨r, rfl, hr⟩ := h2
    refine .tup (SqT.of hq) (SqT.of hr) rfl fun i a b ha hb => ?_
    rw [ha] at hb; cases hb
    rw [List.getElem?_map] at ha
    cases hy : ys[i]? with
    | none => rw [hy] at ha; cases ha
    | some z => rw [hy] at ha; cases ha; exact .str z
theorem TmAt.items {K : PySem.W.Frag} {H : Hp} {t : Trm} {x y : V} (h1 : ThAt H x t.th) (h2 : ThAt H y t.th) :
    ∀ (i : Nat) a b, ([.int t.sg, .str (kindOf t.th), x] : List V)[i]? = some a → ([.int t.sg, .str (kindOf t.th), y] : List V)[i]? = some b → DEq K H 1 a b
  | 0, a, b, ha, hb => by cases ha; cases hb; exact .int _
  | 1, a, b, ha, hb => by cases ha; cases hb; exact .str _
  | 2, a, b, ha, hb => by cases ha; cases hb; exact h1.deq h2
  | i + 3, a, b, ha, hb => by simp at ha
theorem choose_list {α β : Type} (P : Nat → α → β → Prop) : ∀ (ys : List α) (k : Nat), (∀ (i : Nat) v, ys[i]? = some v → ∃ t, P (k + i) v t) → ∃ ts : List β, ts.length = ys.length ∧ ∀ (i : Nat) v, ys[i]? = some v → ∃ t, ts[i]? = some t ∧ P (k + i) v t
  | [], k, _ => ⟨[], rfl, fun i v h => by simp at h⟩
  | y :: ys, k, h => by
    obtain ⟨t0, h0⟩ := h 0 y rfl
    obtain ⟨ts, hl, ht⟩ := choose_list P ys (k + 1) fun i v e => by
      have := h (i + 1) v (by simpa using e)
      rwa [show k + (i + 1) = k + 1 + i from by omega] at this
    refine ⟨t0 :: ts, by simp [hl], fun i v e => ?_⟩
    cases i with
    | zero => cases e; exact ⟨t0, rfl, h0⟩
    | succ i =>
      obtain ⟨t, e2, p⟩ := ht i v (by simpa using e)
      refine ⟨t, by simpa using e2, ?_⟩
      rwa [show k + (i + 1) = k + 1 + i from by omega]
end Mine

set_option maxHeartbeats 4000000
namespace L2
open PySem PySem.Spec PyProof.Rows PySem.W
section
variable {X : Cx} {x : Str} {pos : Pos}
end
structure RCl (K : Frag) (C : Addr) : Prop where
  cl : Cls K C
  ha : findIn K (.ref C) "__class__" = some (some (.builtin "object.__class__"))
  hn : specialIn K (.builtin "object.__class__") "__get__" = some (some (.builtin "getset_descriptor.__get__"))
  htk : takesIn K (.builtin "object.__class__") = some true
  hm : mroIn K C (.type "object") = some true
theorem RCl.ty {K : Frag} {C a dx : Addr} {H : Hp} {fs : List (Str × V)} (c : RCl K C) (e : H a = some (.ins C dx fs)) : TyOf K H (.ref a) (.ref C) := .ins e c.cl c.ha c.hn c.htk c.hm
section
variable {X : Cx} {C : Addr} {x : Str} {p pos : Pos}
end
section
variable {X : Cx} {C f : Addr} {k : Nat} {fd : FuncData} {ps : List Str} {sp : Sp} {x : Str} {p pos : Pos} {e : Expr} {es : List Expr} {t : TA}
theorem rmake (M : Mk X.K C f) (b : Binds X.K fd ps []) (G : FnOk X.prog X.w X.K X.mg X.base CX0 k f fd ps sp) (hr : Room (k + 1) X.A) (hm : X.mg x = some (.ref C)) (ha : PA X (e :: es) t) (hg : Gl X x := by rfl)
    (hdb : (x == ("__debug__" : Str)) = false := by decide) (he : starEach (e :: es) X.env = (false, eval e X.env) :: starEach es X.env := by rfl) (hpl : (backTo pos (starEach es X.env)).any (·.1) = false := by rfl) :
    PE X (.Call (.Name x p) (e :: es) [] pos) (tMake C sp [] E0 t) := pe_make M G hr hg hm b .nil pass0 ha hdb he hpl
end
noncomputable def VM (P : Program) (w : World) (K : Frag) (mg : Str → Option Value) (base : Heap) (k : Nat) (C : Addr) (m : Str) (sp : Sp) : Prop := ∃ f fd ps, Meth K C m f ∧ FnOk P w K mg base CX0 k f fd ps sp ∧ Binds K fd ps []
noncomputable def MV (P : Program) (w : World) (K : Frag) (mg : Str → Option Value) (base : Heap) (k : Nat) (m : Str) (x : V) (H : Hp) (Q : VK) : Prop :=
  ∃ a C dx fs sp, x = .ref a ∧ H a = some (.ins C dx fs) ∧ fs.lookup m = none ∧ Cls K C ∧ VM P w K mg base k C m sp ∧ sp [x] H Q E0
noncomputable def tMethV (P : Program) (w : World) (K : Frag) (mg : Str → Option Value) (base : Heap) (k : Nat) (m : Str) (ta : TE) : TE := fun σ H Q => ta σ H fun x H1 => MV P w K mg base k m x H1 Q
section
variable {X : Cx} {P : Program} {w : World} {K : Frag} {mg : Str → Option Value} {base : Heap} {k : Nat} {m : Str} {o : Expr} {ta : TE} {pos apos : Pos}
theorem pe_methV {pl : Sem Bool} (h1 : X.prog = P) (h2 : X.w = w) (h3 : X.K = K) (h4 : X.mg = mg) (h5 : X.base = base) (hr : Room k X.A) (he : PE X o ta)
    (ht : eval (.Call (.Attribute o m apos) [] [] pos) X.env = (do
      let ov ← eval o X.env
      standAt apos.atName
      let (f, first) ← holding [ov] (getMethod ov m pl)
      callWith pos f first (backTo pos (starEach [] X.env)) (backToKw pos (keywordEach [] X.env))) := by rfl) :
    PE X (.Call (.Attribute o m apos) [] [] pos) (tMethV P w K mg base k m ta) := by
  subst h1 h2 h3 h4 h5
  intro pins s σ H Q I h
  refine PySem.W.methodCall_KW (pl := pl) (thn (he pins s σ H _ I h) fun u s1 hz => ?_) ht
  obtain ⟨x, H1, I1, rx, a, C, dx, fs, sp, ex, ea, l, c, ⟨f, fd, ps, hm, F, hb⟩, q⟩ := hz
  subst ex
  obtain rfl : u = Value.ref a := rx
  refine getmeth_ok I1 ea c hm l ?_
  exact PySem.W.callWith_K0 (first := [.ref a]) I1.kIn hm.kp (run_fn (us := [.ref a]) (vs := [.ref a]) (dvs := []) (ds := []) F hr hb .nil pass0 I1 (.cons rfl .nil) q)
end
section
variable {X : Cx} {o value : Expr} {f : Str} {pos pos' : Pos} {ta tv : TE}
theorem qs_fld (ha : PE X o ta) (hv : PE X value tv) (hs : swapsWith value (some (.Attribute o f pos')) pos.line X.env = pure false := by rfl) : QS X (.Assign [.Attribute o f pos'] value pos) (sFld X.K ta tv f) := ⟨ps_fld ha hv hs⟩
end
structure MAt (K : Frag) (m q : Str) (st : Stmt) (ps : List Str) (f : Addr) (fd : FuncData) : Prop where
  F : Fun K m q st f fd
  b : Binds K fd ps []
theorem rdF {K : Frag} {H : Hp} {a C dx : Addr} {fs : List (Str × V)} {v : V} {f : Str} {q : V → Prop} (ha : H a = some (.ins C dx fs)) (c : Cls K C) (n : NoAttr K C f) (l : fs.lookup f = some v) (h : q v) :
    ∃ a' C' dx' fs' v', V.ref a = .ref a' ∧ H a' = some (.ins C' dx' fs') ∧ Cls K C' ∧ NoAttr K C' f ∧ fs'.lookup f = some v' ∧ q v' := ⟨a, C, dx, fs, v, rfl, ha, c, n, l, h⟩
theorem upd_none {H : Hp} {p b : Addr} {o : HO} (h : upd H p o b = none) : H b = none ∧ b ≠ p := by
  unfold upd at h
  split at h
  · cases h
  · exact ⟨h, ‹_›⟩
theorem lkP {f : Str} {y : V} {fs : List (Str × V)} : (putF f y fs).lookup f = some y := by rw [lookup_putF, if_pos rfl]
theorem lkN {f g : Str} {y : V} {fs : List (Str × V)} (h : ¬ g = f) : (putF f y fs).lookup g = fs.lookup g := by rw [lookup_putF, if_neg h]
theorem lenP {f : Str} {y : V} {fs : List (Str × V)} {n : Nat} (h : fs.length < n) : (putF f y fs).length < n + 1 := by have := length_putF f y fs; omega
noncomputable def SameBut (x : Addr) (H H' : Hp) : Prop := ∀ b o, H b = some o → b ≠ x → H' b = some o
theorem sb3 {H : Hp} {x l : Addr} {o1 o2 o3 : HO} (hl : H l = none) : SameBut x H (upd (upd (upd H x o1) l o2) x o3) := fun b o e hb => by
  rw [upd_ne hb, upd_ne (ne_of_none e hl), upd_ne hb]; exact e
theorem sb2 {H : Hp} {x l : Addr} {o1 o2 : HO} (hl : H l = none) : SameBut x H (upd (upd H l o1) x o2) := fun b o e hb => by
  rw [upd_ne hb, upd_ne (ne_of_none e hl)]; exact e
theorem kit_own {K : Frag} {C D : Addr} {b : Bool} (m : mroIn K C (.ref D) = some b) (sD : mroIn K D (.ref D) = some true) (o : mroIn K D (.type "object") = some true) (ty : typeIn K (.ref D) = some (.type "type")) : kitOne K (.ref C) (.ref D) = some b := by
  unfold kitOne
  by_cases e : (Value.ref C == Value.ref D) = true
  · rw [if_pos e]
    have e' : C = D := by cases eq_of_beq e; rfl
    subst e'
    rw [m] at sD; exact sD.symm
  · rw [if_neg e]
    cases h : clsIn K D with
    | none => unfold mroIn at o; rw [h] at o; cases o
    | some cd =>
      show (if ((clsIn K D).isSome && typeIn K (.ref D) == some (.type "type")) = true then mroIn K C (.ref D) else none) = _
      rw [h, ty, if_pos (by simp), m]
theorem comp_listG {K : Frag} {a : Addr} {xs : List V} {g : TG} {te : TE} {τ0 : St} {H : Hp} {Fin : List V → Hp → Prop} (S : St → Prop) (R : Nat → V → Hp → Prop) (hm : ∀ i v H' H'', R i v H' → Same H' H'' → R i v H'') (hn : xs.length ≤ sizeLine) (hl : SqL K H a xs) (h0 : S τ0)
    (hte : ∀ (i : Nat) x τ H' (Q : St → V → Hp → Prop), xs[i]? = some x → Same H H' → S τ → (∀ τ2 v H'', S τ2 → Same H' H'' → R i v H'' → Q τ2 v H'') → g x τ H' fun τ2 H2 => te τ2 H2 fun y H4 => Q τ2 y H4)
    (hfin : ∀ ys H', Same H H' → ys.length = xs.length → (∀ (i : Nat) v, ys[i]? = some v → R i v H') → Fin ys H') : CompW g tYes te (Itl K a) τ0 H Fin := by
  refine ⟨fun i m τ ys H' => m = xs.length - i ∧ i ≤ xs.length ∧ ys.length = i ∧ (∀ (j : Nat) v, ys[j]? = some v → R j v H') ∧ Same H H' ∧ S τ, ⟨xs.length, rfl, Nat.zero_le _, rfl, fun j v h => by simp at h, Same.refl _, h0⟩, ?_⟩
  rintro i m τ ys H' ⟨rfl, hi, hyl, hr, sm, hS⟩
  by_cases hlt : i < xs.length
  · refine .inr ⟨⟨xs, xs[i], sm.seq hl, by simp [hlt]⟩, fun x H'' y => ?_⟩
    obtain ⟨e, y⟩ := y
    subst e
    have hx := y xs (sm.seq hl)
    have key := hte i x τ H'' (fun τ2 y H4 => ys.length < sizeLine ∧ ∃ m', m' < xs.length - i ∧ (m' = xs.length - (i + 1) ∧ i + 1 ≤ xs.length ∧ (ys ++ [y]).length = i + 1 ∧ (∀ (j : Nat) v, (ys ++ [y])[j]? = some v → R j v H4) ∧ Same H H4 ∧ S τ2)) hx sm hS fun τ2 v H4 s2 s4 hv => by
      refine ⟨by omega, xs.length - (i + 1), by omega, rfl, hlt, by rw [List.length_append, hyl]; rfl, fun j u hj => ?_, sm.trans s4, s2⟩
      by_cases hji : j < ys.length
      · rw [List.getElem?_append_left hji] at hj
        exact hm _ _ _ _ (hr j u hj) s4
      · rw [List.getElem?_append_right (by omega)] at hj
        have hj0 : j - ys.length = 0 := by
          cases hh : j - ys.length with
          | zero => rfl
          | succ k => rw [hh] at hj; simp at hj
        rw [hj0] at hj
        have : j = i := by omega
        subst this
        have : v = u := by simpa using hj
        subst this
        exact hv
    exact key
  · have e : i = xs.length := by omega
    subst e
    exact .inl ⟨⟨xs, sm.seq hl, Nat.le_refl _⟩, hfin ys H' sm hyl hr⟩
theorem len0 {α : Type} {us : List α} (h : us.length = 0) : us = [] := List.length_eq_zero_iff.mp h
theorem len_s {α : Type} {us : List α} {n : Nat} (h : us.length = n + 1) : ∃ a r, us = a :: r ∧ r.length = n := by
  cases us with
  | nil => cases h
  | cons a r => exact ⟨a, r, rfl, Nat.succ.inj h⟩
theorem len1 {α : Type} {us : List α} (h : us.length = 1) : ∃ a, us = [a] := by
  obtain ⟨a, r, rfl, k⟩ := len_s h
  exact ⟨a, by rw [len0 k]⟩
theorem len2 {α : Type} {us : List α} (h : us.length = 2) : ∃ a b, us = [a, b] := by
  obtain ⟨a, r, rfl, k⟩ := len_s h
  obtain ⟨b, rfl⟩ := len1 k
  exact ⟨a, b, rfl⟩
theorem len3 {α : Type} {us : List α} (h : us.length = 3) : ∃ a b c, us = [a, b, c] := by
  obtain ⟨a, r, rfl, k⟩ := len_s h
  obtain ⟨b, c, rfl⟩ := len2 k
  exact ⟨a, b, c, rfl⟩
end L2

set_option maxHeartbeats 4000000
namespace Mine
open PySem PySem.Spec PyProof.Rows L2 PySem.Builtin PySem.Builtin.Str
structure RowD where
  so : Nat
  nm : Str
  ad : Str
  wd : Str
  ts : List Trm
noncomputable def sortW : Nat → Str
  | 0 => "let"
  | 1 => "deed"
  | 2 => "draw"
  | 3 => "late"
  | 4 => "take"
  | _ => "need"
structure GoodA (ys : List Str) : Prop where
  lo : ys ≠ []
  hi : ys.length ≤ 3
  nm : ∀ y ∈ ys, IsNm y
structure GoodR (r : RowD) : Prop where
  so : r.so ≤ 5
  nm : r.so < 5 → IsNm r.nm
  no : r.so = 5 → r.nm = ""
  ad : ∃ ys, GoodA ys ∧ r.ad = dotted ys
  wd : IsNm r.wd
  ts : GoodTs r.ts
  dd : r.so = 1 → ∀ t ∈ r.ts, ∀ ys, t.th ≠ .nms true ys
theorem GoodA.len {ys : List Str} (h : GoodA ys) : (dotted ys).length ≤ 36 := GoodN.len ⟨h.lo, Nat.le_trans h.hi (by decide), h.nm⟩
theorem GoodR.nl {r : RowD} (h : GoodR r) : r.nm.length ≤ 8 := by
  rcases Nat.lt_or_ge r.so 5 with k | k
  · exact (h.nm k).hi
  · rw [h.no (by have := h.so; omega)]; decide
theorem GoodR.tl {r : RowD} (h : GoodR r) : (textOf r.ts).length ≤ 480 := by
  have := textOf_len (ts := r.ts) fun t ht => h.ts.ok t ht
  have := h.ts.hi
  omega
theorem abS {a b : Str} {m n : Nat} (ha : a.length ≤ m) (hb : b.length ≤ n) (h : m + n ≤ 1000 := by decide) : a.length + b.length ≤ sizeLine := Nat.le_trans (Nat.add_le_add ha hb) (Nat.le_trans h line_big)
theorem alS {a b : Str} {m n : Nat} (ha : a.length ≤ m) (hb : b.length ≤ n) : (a ++ b).length ≤ m + n := by rw [appLen]; exact Nat.add_le_add ha hb
noncomputable def RowTup (H : Hp) (v : V) (lt : Addr) (r : RowD) : Prop := ∃ p, v = .ref p ∧ H p = some (.tup [.str (sortW r.so), .str r.nm, .str r.ad, .str r.wd, .ref lt]) ∧ TmsAt H lt r.ts
structure Flds (H : Hp) (fs : List (Str × V)) (l : Addr) (r : RowD) : Prop where
  nm : r.so < 5 → fs.lookup ("name" : Str) = some (.str r.nm)
  tm : r.so = 0 ∨ r.so = 1 ∨ r.so = 5 → fs.lookup ("terms" : Str) = some (.ref l) ∧ TmsAt H l r.ts
  ad : r.so = 2 ∨ r.so = 3 ∨ r.so = 4 → fs.lookup ("address" : Str) = some (.str r.ad)
  wd : r.so = 4 → fs.lookup ("word" : Str) = some (.str r.wd)
  nb : fs.lookup ("binds" : Str) = none
  na : fs.lookup ("asked" : Str) = none
  ns : fs.lookup ("said" : Str) = none
noncomputable def RowAt (C : Nat → Addr) (H : Hp) (a l : Addr) (r : RowD) : Prop := ∃ dx fs, H a = some (.ins (C r.so) dx fs) ∧ Flds H fs l r
theorem Flds.same {H H' : Hp} {fs : List (Str × V)} {l : Addr} {r : RowD} (h : Flds H fs l r) (s : Same H H') : Flds H' fs l r :=
  ⟨h.nm, fun k => ⟨(h.tm k).1, (h.tm k).2.same s⟩, h.ad, h.wd, h.nb, h.na, h.ns⟩
theorem RowAt.same {C : Nat → Addr} {H H' : Hp} {a l : Addr} {r : RowD} (h : RowAt C H a l r) (s : Same H H') : RowAt C H' a l r := by
  obtain ⟨dx, fs, e, f⟩ := h
  exact ⟨dx, fs, s _ _ e, f.same s⟩
theorem RowTup.same {H H' : Hp} {v : V} {lt : Addr} {r : RowD} (h : RowTup H v lt r) (s : Same H H') : RowTup H' v lt r := by
  obtain ⟨p, e, hp, t⟩ := h
  exact ⟨p, e, s _ _ hp, t.same s⟩
theorem TmsAt.upd {H : Hp} {l d : Addr} {ts : List Trm} {ys : List V} {o : HO} (h : TmsAt H l ts) (hd : H d = some (.lst ys)) (hne : l ≠ d) : TmsAt (upd H d o) l ts := by
  obtain ⟨xs, hl, hn, hx⟩ := h
  refine ⟨xs, by rw [upd_ne hne]; exact hl, hn, fun i x e => ?_⟩
  obtain ⟨t, ht, tm⟩ := hx i x e
  exact ⟨t, ht, tm.upd hd⟩
theorem RowAt.upd {C : Nat → Addr} {H : Hp} {a l d : Addr} {r : RowD} {ys : List V} {o : HO} (h : RowAt C H a l r) (hd : H d = some (.lst ys)) (hne : l ≠ d) : RowAt C (upd H d o) a l r := by
  obtain ⟨dx, fs, e, f⟩ := h
  exact ⟨dx, fs, by rw [upd_ne (ne_of e hd (by intro z; cases z))]; exact e, f.nm, fun k => ⟨(f.tm k).1, (f.tm k).2.upd hd hne⟩, f.ad, f.wd, f.nb, f.na, f.ns⟩
theorem RowTup.upd {H : Hp} {v : V} {lt d : Addr} {r : RowD} {ys : List V} {o : HO} (h : RowTup H v lt r) (hd : H d = some (.lst ys)) (hne : lt ≠ d) : RowTup (upd H d o) v lt r := by
  obtain ⟨p, e, hp, t⟩ := h
  exact ⟨p, e, by rw [upd_ne (ne_of hp hd (by intro z; cases z))]; exact hp, t.upd hd hne⟩
theorem TmAt.but {H H' : Hp} {v : V} {t : Trm} {x C dx : Addr} {fs : List (Str × V)} (h : TmAt H v t) (hx : H x = some (.ins C dx fs)) (s : SameBut x H H') : TmAt H' v t := by
  obtain ⟨p, y, e, hp, hy⟩ := h
  refine ⟨p, y, e, s _ _ hp (ne_of hp hx (by intro z; cases z)), ?_⟩
  cases hth : t.th with
  | num m => rw [hth] at hy; exact hy
  | nms c zs =>
    rw [hth] at hy
    obtain ⟨q, e, hq⟩ := hy
    exact ⟨q, e, s _ _ hq (ne_of hq hx (by intro z; cases z))⟩
noncomputable def kitv (i j : Nat) : Bool := decide (i = j) || decide (j = 6)
theorem sort_dec {i j : Nat} (hi : i ≤ 5) (hj : j ≤ 5) : decide (V.str (sortW i) = V.str (sortW j)) = kitv i j := by
  have k : ∀ i j : Fin 6, decide (V.str (sortW i.val) = V.str (sortW j.val)) = kitv i.val j.val := by decide +kernel
  exact k ⟨i, by omega⟩ ⟨j, by omega⟩
end Mine

set_option maxHeartbeats 4000000
namespace L2
open PySem PySem.Spec PyProof.Rows PySem.W
section
variable {X : Cx} {pos : Pos} {t : TS}
end
theorem cut_from (xs : List V) (k : Nat) : cutV xs (some (k : Int)) none = xs.drop k := by
  unfold cutV
  rw [HT.sIx_none, HT.sIx_nat]
  rw [List.take_of_length_le (by rw [List.length_drop]; exact Nat.le_refl _)]
  by_cases h : k ≤ xs.length
  · rw [Nat.min_eq_left h]
  · rw [Nat.min_eq_right (by omega), List.drop_length, List.drop_eq_nil_of_le (by omega)]
end L2
namespace Mine
open PySem PySem.Spec PyProof.Rows L2 PySem.Builtin PySem.Builtin.Str
end Mine

set_option maxHeartbeats 4000000
namespace En
open PySem PySem.Spec PyProof.Rows
section
variable {prog : Program} {w : World} {A : Around} {E : Value → Shared → Prop} {s : Shared}
theorem next_item {e j l : Addr} {i : Nat} {k : Int} {its : Array Value} {x old : Value} {Q : Option Value → Shared → Prop}
    (q1 : IsEnum s.heap e j k old) (q2 : s.heap.IsListIter j l i) (q3 : s.heap.IsList l its) (q4 : its[i]? = some x) (ne : e ≠ j)
    (kQ : ∀ h', IsEnumOut h' e j (k + 1) x s.heap.objs.size → h'.IsListIter j l (i + 1) → h'.get? s.heap.objs.size = some { cls := .type "tuple", data := .seq #[.int k s.toks, x] } →
      (∀ b o, b ≠ e → b ≠ j → s.heap.get? b = some o → h'.get? b = some o) → Q (some (.ref s.heap.objs.size)) { s with heap := h', toks := s.toks + 1 }) :
    wpAny (model prog w) A (pyNext (.ref e)) Q E s := by
  have ty : s.TypeIs (.ref e) "enumerate" := ⟨_, q1, rfl⟩
  unfold pyNext
  refine wpAny_bind (wpAny_attempt (wpAny_callSpecial?_slot (name := Str.ofString "__next__") ty F.slot_enumerate_next (wpAny_call_entry F.slot_enumerate_next ty F.entry_enumerate_next ?_ (F.args_enumerate_next_1 _))))
  obtain ⟨hp, g, d, tk, os⟩ := s
  show wpAny _ _ (field (.ref e) 2 >>= _) _ _ _
  refine wpAny_bind (wpAny_field q1 rfl (x := .ref j) rfl (wpAny_bind (wpAny_nextOf_list_item q2 q3 q4 fun h1 r1 z1 => ?_)))
  replace z1 : Heap.SameBut j hp h1 := z1
  have a1 : IsEnum h1 e j k old := (z1.2 e ne).trans q1
  show wpAny _ _ (field (.ref e) 3 >>= _) _ _ ⟨h1, g, d, tk, os⟩
  refine wpAny_bind (wpAny_field a1 rfl (x := rawInt k) rfl ?_)
  show wpAny _ _ (field (.ref e) 4 >>= _) _ _ ⟨h1, g, d, tk, os⟩
  refine wpAny_bind (wpAny_field a1 rfl (x := .none) rfl ?_)
  show wpAny _ _ (mkInt k >>= _) _ _ ⟨h1, g, d, tk, os⟩
  refine wpAny_bind (wpAny_mkInt ?_)
  show wpAny _ _ (setField (.ref e) 3 (rawInt (k + 1)) >>= _) _ _ ⟨h1, g, d, tk + 1, os⟩
  refine wpAny_bind (wpAny_setField_rec a1 (by simp) fun h2 a2 z2 => ?_)
  replace z2 : Heap.SameBut e h1 h2 := z2
  replace a2 : IsEnum h2 e j (k + 1) old := a2
  show wpAny _ _ (setField (.ref e) 4 .none >>= _) _ _ ⟨h2, g, d, tk + 1, os⟩
  refine wpAny_bind (wpAny_setField_rec a2 (by simp) fun h3 a3 z3 => ?_)
  replace z3 : Heap.SameBut e h2 h3 := z3
  replace a3 : IsEnum h3 e j (k + 1) old := a3
  show wpAny _ _ (newTuple [.int k tk, x] >>= _) _ _ ⟨h3, g, d, tk + 1, os⟩
  refine wpAny_bind (wpAny_newTuple ?_)
  have a4 : IsEnum (h3.push { cls := .type "tuple", data := .seq #[.int k tk, x] }) e j (k + 1) old := Heap.get?_push_of_some _ a3
  generalize hh : h3.push { cls := .type "tuple", data := .seq #[.int k tk, x] } = h4 at a4
  have sz : h3.objs.size = hp.objs.size := by rw [z3.1, z2.1, z1.1]
  have el : e < hp.objs.size := Heap.lt_size q1
  have t4 : h4.get? hp.objs.size = some { cls := .type "tuple", data := .seq #[.int k tk, x] } := by rw [← hh, ← sz]; exact Heap.get?_push_size _ rfl
  have k4 : ∀ b o, b ≠ e → b ≠ j → hp.get? b = some o → h4.get? b = some o := fun b o be bi hb => by
    rw [← hh]; exact Heap.get?_push_of_some _ (z3.extBut b o be (z2.extBut b o be (z1.extBut b o bi hb)))
  have r4 : h4.IsListIter j l (i + 1) := by
    rw [← hh]; obtain ⟨o, ho, r⟩ := (r1.extBut z2.extBut (Ne.symm ne)).extBut z3.extBut (Ne.symm ne); exact ⟨o, Heap.get?_push_of_some _ ho, r⟩
  show wpAny _ _ (Builtin.SmallTypes.ownedTupleIsFree (.ref e) >>= _) _ _ ⟨h4, g, d, tk + 1, os⟩
  rw [sz]
  clear hh a3 z3 a2 z2 a1 z1 r1 sz h3 h2 h1
  refine wpAny_bind ?_
  unfold Builtin.SmallTypes.ownedTupleIsFree
  refine wpAny_bind (wpAny_field a4 rfl (x := .none) rfl (wpAny_pure ?_))
  simp only [if_true]
  refine wpAny_bind (wpAny_rule (wpAny_bind (wpAny_field a4 rfl (x := old) rfl (wpAny_bind (wpAny_setField_rec a4 (by simp) fun h5 a5 z5 => ?_)))))
  replace z5 : Heap.SameBut e h4 h5 := z5
  replace a5 : IsEnum h5 e j (k + 1) x := a5
  show wpAny _ _ (Builtin.SmallTypes.ownedTupleHandOut (.ref e) (.ref hp.objs.size) >>= _) _ _ ⟨h5, g, d, tk + 1, os⟩
  refine wpAny_bind ?_
  unfold Builtin.SmallTypes.ownedTupleHandOut
  refine wpAny_bind (wpAny_setField_rec a5 (by simp) fun h6 a6 z6 => ?_)
  replace z6 : Heap.SameBut e h5 h6 := z6
  replace a6 : IsEnumOut h6 e j (k + 1) x hp.objs.size := a6
  refine wpAny_setField_rec a6 (by simp) fun h7 a7 z7 => ?_
  replace z7 : Heap.SameBut e h6 h7 := z7
  replace a7 : IsEnumOut h7 e j (k + 1) x hp.objs.size := a7
  refine wpAny_bind (wpAny_letGo (wpAny_pure ⟨_, rfl, wpAny_pure (kQ h7 a7 ?_ ?_ ?_)⟩))
  · exact ((r4.extBut z5.extBut (Ne.symm ne)).extBut z6.extBut (Ne.symm ne)).extBut z7.extBut (Ne.symm ne)
  · exact z7.extBut _ _ (Nat.ne_of_gt el) (z6.extBut _ _ (Nat.ne_of_gt el) (z5.extBut _ _ (Nat.ne_of_gt el) t4))
  · exact fun b o be bi hb => z7.extBut b o be (z6.extBut b o be (z5.extBut b o be (k4 b o be bi hb)))
theorem next_end {e j l : Addr} {i : Nat} {k : Int} {its : Array Value} {old : Value} {Q : Option Value → Shared → Prop} (hh : A.handled = none)
    (q1 : IsEnum s.heap e j k old) (q2 : s.heap.IsListIter j l i) (q3 : s.heap.IsList l its) (q4 : its[i]? = none)
    (kQ : ∀ h', Heap.ExtBut j s.heap h' → Q none { s with heap := h' }) : wpAny (model prog w) A (pyNext (.ref e)) Q E s := by
  have ty : s.TypeIs (.ref e) "enumerate" := ⟨_, q1, rfl⟩
  unfold pyNext
  refine wpAny_bind (wpAny_attempt (wpAny_callSpecial?_slot (name := Str.ofString "__next__") ty F.slot_enumerate_next (wpAny_call_entry F.slot_enumerate_next ty F.entry_enumerate_next ?_ (F.args_enumerate_next_1 _))))
  show wpAny _ _ (field (.ref e) 2 >>= _) _ _ _
  refine wpAny_bind (wpAny_field q1 rfl (x := .ref j) rfl (wpAny_bind (wpAny_nextOf_list_end hh q2 q3 q4 fun h' x hx ho => ?_)))
  obtain ⟨o, ho, hc⟩ := ho
  exact wpAny_bind (wpAny_isInstance (T := "StopIteration") (b := true) ⟨o, ho, hc⟩ isSubtype_stop (wpAny_pure (kQ _ hx)))
end
end En
namespace L2
open PySem PySem.Spec PyProof.Rows
noncomputable def Ite (K : PySem.W.Frag) (a : Addr) (k : Int) : It :=
  ⟨fun i H => ∃ xs x, SqL K H a xs ∧ xs[i]? = some x, fun i H v H' => ∃ p x, v = .ref p ∧ H p = none ∧ (∀ xs, SqL K H a xs → xs[i]? = some x) ∧ H' = upd H p (.tup [.int (k + i), x]), fun i H => ∃ xs, SqL K H a xs ∧ xs.length ≤ i⟩
theorem turn_enum {P : Program} {w : World} {K : PySem.W.Frag} {elts : List Expr} {x1 : Nat} {tpos : Pos} (a e j : Addr) (k : Int) (ne : e ≠ j) :
    Turn P w K (.Tuple elts x1 tpos) (Ite K a k) [e, j] e (fun i h => (∃ old, IsEnum h e j (k + i) old) ∧ h.IsListIter j a i) where
  mem := .head _
  obj := fun i h st c hc => by
    obtain ⟨⟨old, hz⟩, h1⟩ := st
    cases hc with
    | head => exact ⟨_, hz, fun v z => by cases z⟩
    | tail _ hc => cases hc with
      | head => obtain ⟨o, e, _, d⟩ := h1; exact ⟨o, e, fun v z => by rw [d] at z; cases z⟩
      | tail _ hc => cases hc
  keep := fun i h h' st k => by
    obtain ⟨⟨old, hz⟩, h1⟩ := st
    exact ⟨⟨old, k e (.head _) _ hz⟩, h1.at fun o e => k j (.tail _ (.head _)) o e⟩
  item := by
    intro X hP hw hK hc i pins s σ H E I hf st hg
    subst hP hw hK
    obtain ⟨xs, x, hq, hx⟩ := hg
    obtain ⟨⟨old, hz⟩, h1⟩ := st
    obtain ⟨us, rv, p, hsz⟩ := I.list hq
    obtain ⟨u, hu, ru⟩ := rv.get hx
    have lt : ∀ {c o}, s.heap.get? c = some o → c ≠ s.heap.objs.size := fun e => Nat.ne_of_lt (Heap.lt_size e)
    refine En.next_item hz h1 p.isList (x := u) (by simpa using hu) ne fun h' a1 a2 a3 hk => ?_
    refine ⟨_, rfl, wpAny_letOwnedTupleGo_enum a1 fun h'' hz' hs' => ?_⟩
    have hfr : H s.heap.objs.size = none := I.hok.fresh (Nat.le_refl _)
    have hT : h''.get? s.heap.objs.size = some { cls := .type "tuple", data := .seq #[.int (k + i) s.toks, u] } := (hs'.2 _ (Ne.symm (lt hz))).trans a3
    have kk : ∀ c o, c ≠ e → c ≠ j → s.heap.get? c = some o → h''.get? c = some o := fun c o q1 q2 e' => (hs'.2 c q1).trans (hk c o q1 q2 e')
    have fe := hf e (.head _)
    have fj := hf j (.tail _ (.head _))
    have hch : ∀ c, c ∉ [e, j] → c ≠ e ∧ c ≠ j := fun c hc => ⟨fun z => hc (z ▸ .head _), fun z => hc (z ▸ .tail _ (.head _))⟩
    have trk : ∀ c o, H c = some o → c ≠ e ∧ c ≠ j := fun c o q => ⟨(fun z => by rw [z, fe.1] at q; cases q), (fun z => by rw [z, fj.1] at q; cases q)⟩
    have I1 : Inv X pins σ (upd H s.heap.objs.size (.tup [.int (k + i), x])) { s with heap := h'', toks := s.toks + 1 } := by
      refine I.step (g' := s.gens) (d' := s.drawn) (t' := s.toks + 1) (ch := [e, j]) (fun c hc => ?_) (fun c o _ _ hc e' _ => ?_) (fun c o _ _ hc e' _ => ?_) (fun c o hc e' n => ?_) (fun c o hc e' => ?_) (fun c q e' => ?_) (fun c o q e' => ?_) (fun c q e' => ?_) (fun m hm => ?_) (fun c o e' => ?_) I.bare
      · cases hc with
        | head => exact ⟨fe.2.2.2.1, fe.2.1, fe.2.2.2.2.1, fe.2.2.2.2.2⟩
        | tail _ hc => cases hc with
          | head => exact ⟨fj.2.2.2.1, fj.2.1, fj.2.2.2.2.1, fj.2.2.2.2.2⟩
          | tail _ hc => cases hc
      · exact kk c o (hch c hc).1 (hch c hc).2 e'
      · exact ⟨o.slots, kk c o (hch c hc).1 (hch c hc).2 e'⟩
      · rw [upd_ne (lt e')]; exact n
      · exact ⟨o, kk c o (hch c hc).1 (hch c hc).2 e'⟩
      · rw [upd_ne (ne_of_none e' hfr)]; exact e'
      · rw [upd_ne (ne_of_none e' hfr)]; exact e'
      · exact ⟨#[], by rw [upd_ne (ne_of_none e' hfr), e']; simp⟩
      · obtain ⟨o, es, ep, ho, r⟩ := hm
        exact ⟨o, es, ep, kk _ o (Ne.symm fe.2.1) (Ne.symm fj.2.1) ho, r⟩
      · by_cases hcT : c = s.heap.objs.size
        · subst hcT
          rw [upd_same] at e'
          cases e'
          exact ⟨by show 2 ≤ sizeLine; decide, [.int (k + i) s.toks, u], .cons ⟨_, rfl⟩ (.cons ru .nil), ⟨_, hT, rfl, _, rfl⟩⟩
        · rw [upd_ne hcT] at e'
          obtain ⟨q1, q2⟩ := trk c o e'
          refine (I.hok c o e').stay (fun d w' hd q => ?_) (fun d q => ?_) fun d w' q => ?_
          · have : d ≠ e ∧ d ≠ j := by
              rcases hd with rfl | hd
              · exact ⟨q1, q2⟩
              · exact trk d _ hd
            exact kk d w' this.1 this.2 q
          · rw [upd_ne (ne_of_none q hfr)]; exact q
          · rw [upd_ne (ne_of_none q hfr)]; exact q
    refine ⟨.ref s.heap.objs.size, _, I1, rfl, ⟨s.heap.objs.size, x, rfl, hfr, fun zs hq' => by rw [I.list_inj hq' hq]; exact hx, rfl⟩, ?_, fun c hc => ?_⟩
    · refine ⟨⟨u, ?_⟩, a2.at fun o q => (hs'.2 j (Ne.symm ne)).trans q⟩
      have := hz'
      rwa [show k + (i : Int) + 1 = k + ((i + 1 : Nat) : Int) from by omega] at this
    · have hc0 := (hf c hc).1
      have hne : c ≠ s.heap.objs.size := by
        cases hc with
        | head => exact lt hz
        | tail _ hc => cases hc with
          | head => obtain ⟨_, q, _⟩ := h1; exact lt q
          | tail _ hc => cases hc
      rw [upd_ne hne]; exact hc0
  done := by
    intro X hP hw hK hc i pins s σ H E I hf st hg
    subst hP hw hK
    obtain ⟨xs, hq, hend⟩ := hg
    obtain ⟨⟨old, hz⟩, h1⟩ := st
    obtain ⟨us, rv, p, hsz⟩ := I.list hq
    have l1 := rv.length
    refine En.next_end (I.ok.hd hc) hz h1 p.isList (by simp; omega) fun h' hk => ⟨rfl, ?_⟩
    have fj := hf j (.tail _ (.head _))
    exact I.turned (t' := s.toks) (fun b o hb q => hk b o hb q) fj.1 fj.2.1 fj.2.2.2.1 fj.2.2.2.2.1 fj.2.2.2.2.2
  self := fun A i s Q E st h => by
    obtain ⟨⟨old, hz⟩, _⟩ := st
    exact wpAny_pyIter_enum hz h
section
variable {X : Cx} {K : PySem.W.Frag}
noncomputable def iEnum (K : PySem.W.Frag) (k : Int) (ta : TA) : TI := fun σ H R => ta σ H fun vs H1 => ∃ a, vs = [.ref a] ∧ (∃ xs, SqL K H1 a xs) ∧ R (Ite K a k) H1
theorem pi_enum {a : Expr} {ta : TA} {p pos : Pos} {elts : List Expr} {x1 : Nat} {tpos : Pos} (hK : X.K = K) (hg : Gl X "enumerate") (hm : X.mg "enumerate" = none) (ha : PA X [a] ta) (hs : starEach [a] X.env = [(false, eval a X.env)] := by rfl) :
    PI X (.Tuple elts x1 tpos) (.Call (.Name "enumerate" p) [a] [] pos) (iEnum K 0 ta) := by
  subst hK
  intro pins s σ H R I h
  refine Call_ (ld_blt I hg hm boot_enumerate (PyProof.Rows.callWith_type1 (thn (ha pos pins s σ H _ I h) fun us s1 ⟨vs, H1, I1, r1, q1⟩ => ?_) (by rw [hs]; rfl) rfl))
  obtain ⟨a1, e, ⟨xs, hx⟩, q⟩ := q1
  subst e
  obtain ⟨u, rfl, rx⟩ := vals1 r1
  cases rx
  obtain ⟨vs1, _, p1, _⟩ := I1.list hx
  refine call_enumerate_list p1.isList fun h' z1 z2 z3 zk => ?_
  refine wpAny_pyIter_enum z1 ?_
  have I2 : Inv X pins σ H1 { s1 with heap := h' } := I1.kept (t' := s1.toks) zk
  refine ⟨_, [s1.heap.objs.size + 1, s1.heap.objs.size], _, _, H1, rfl, I2, turn_enum a1 _ _ 0 (Nat.succ_ne_self _), ⟨⟨_, z1⟩, z2⟩, fun c hc => ?_, q⟩
  have hle : s1.heap.objs.size ≤ c := by
    cases hc with
    | head => exact Nat.le_succ _
    | tail _ hc => cases hc with
      | head => exact Nat.le_refl _
      | tail _ hc => cases hc
  exact I1.fpOk hle (I1.hok.fresh hle)
end
end L2

set_option maxHeartbeats 4000000
namespace En
open PySem PySem.Spec PyProof.Rows
open AutoSeq1 (wpAny_loadPart')
section
variable {prog : Program} {w : World} {A : Around} {E : Value → Shared → Prop} {s : Shared}
end
end En
namespace L2
open PySem PySem.Spec PyProof.Rows
section
variable {X : Cx} {K : PySem.W.Frag}
end
end L2

set_option maxHeartbeats 4000000
namespace L2
open PySem PySem.Spec PyProof.Rows
theorem for_enum {K : PySem.W.Frag} {a : Addr} {k : Int} {xs : List V} {g : TG} {tb : TS} {D : Ends} {σ : St} {H : Hp} (Pv : Nat → St → Hp → Prop) (h0 : Pv 0 σ H) (hl : ∀ i σ H, i ≤ xs.length → Pv i σ H → SqL K H a xs)
    (hs : ∀ (i : Nat) x p σ H, xs[i]? = some x → Pv i σ H → H p = none → g (.ref p) σ (upd H p (.tup [.int (k + i), x])) fun σ2 H2 => tb { D with nx := Pv (i + 1), ct := Pv (i + 1), bk := D.nx } σ2 H2) (hd : ∀ σ H, Pv xs.length σ H → D.nx σ H) :
    ∃ W : Nat → Nat → St → Hp → Prop, (∃ m, W 0 m σ H) ∧ ∀ i m σ H, W i m σ H →
      ((Ite K a k).stop i H ∧ D.nx σ H) ∨ ((Ite K a k).go i H ∧ ∃ N : St → Hp → Prop, (∀ σ' H', N σ' H' → ∃ m', m' < m ∧ W (i + 1) m' σ' H') ∧ ∀ x H', (Ite K a k).yld i H x H' → g x σ H' fun σ2 H2 => tb { D with nx := N, ct := N, bk := D.nx } σ2 H2) := by
  refine ⟨fun i m σ H => m = xs.length - i ∧ i ≤ xs.length ∧ Pv i σ H, ⟨xs.length, by simp, Nat.zero_le _, h0⟩, ?_⟩
  rintro i m σ H ⟨rfl, hi, p⟩
  have q := hl i σ H hi p
  by_cases hlt : i < xs.length
  · refine .inr ⟨⟨xs, xs[i], q, by simp [hlt]⟩, Pv (i + 1), fun σ' H' p' => ⟨xs.length - (i + 1), by omega, rfl, hlt, p'⟩, fun x H' y => ?_⟩
    obtain ⟨p0, x0, rfl, hp, hx, rfl⟩ := y
    exact hs i x0 p0 σ _ (hx xs q) p hp
  · have e : i = xs.length := by omega
    subst e
    exact .inl ⟨⟨xs, q, Nat.le_refl _⟩, hd σ H p⟩
section
variable {X : Cx} {e : Expr} {te : TE} {pos : Pos}
end
end L2

set_option maxHeartbeats 4000000
namespace L2
open PySem PySem.Spec PyProof.Rows
section
variable {X : Cx}
end
theorem cut_to (xs : List V) (k : Nat) : cutV xs none (some (k : Int)) = xs.take k := by
  unfold cutV
  rw [HT.sIx_none, HT.sIx_nat, List.drop_zero, Nat.sub_zero]
  by_cases h : k ≤ xs.length
  · rw [Nat.min_eq_left h]
  · rw [Nat.min_eq_right (by omega), List.take_length, List.take_of_length_le (by omega)]
theorem vals_of {xs : List V} {n : Nat} (f : Nat → V) (hl : xs.length = n) (h : ∀ (i : Nat) v, xs[i]? = some v → v = f i) : xs = (List.range n).map f := by
  apply List.ext_getElem
  · rw [List.length_map, List.length_range, hl]
  · intro i h1 h2
    rw [h i _ (List.getElem?_eq_getElem h1)]
    simp
end L2
namespace Mine
open PySem PySem.Spec PyProof.Rows L2 PySem.Builtin PySem.Builtin.Str
noncomputable def wdOf (ks : List Int) : Str := ⟨(ks.map fun k => 97 + k.toNat).toArray⟩
noncomputable def In26 (ks : List Int) : Prop := ∀ k ∈ ks, 0 ≤ k ∧ k < 26
theorem wd_codes (ks : List Int) : (wdOf ks).cps.toList = ks.map fun k => 97 + k.toNat := by simp [wdOf]
theorem wd_len (ks : List Int) : (wdOf ks).length = ks.length := by simp [wdOf, Str.length]
theorem wd_nm {ks : List Int} (h1 : 1 ≤ ks.length) (h8 : ks.length ≤ 8) (h : In26 ks) : IsNm (wdOf ks) := ⟨by rw [wd_len]; exact h1, by rw [wd_len]; exact h8, fun n hn => by
  rw [wd_codes] at hn
  obtain ⟨k, hk, rfl⟩ := List.mem_map.mp hn
  have := h k hk
  omega⟩
theorem wd_join (ks : List Int) : Txt.join ("" : Str) (ks.map fun k => (⟨#[97 + k.toNat]⟩ : Str)) = wdOf ks := by
  rw [empty_eq]
  show glued _ _ = _
  rw [StrLaws.glued_eq_join]
  apply strExt
  rw [join_nil_codes, List.map_map, wd_codes]
  induction ks with
  | nil => rfl
  | cons a r ih => simp only [List.map_cons, List.flatten_cons, ih] <;> rfl
theorem In26.take {ks : List Int} (h : In26 ks) (n : Nat) : In26 (ks.take n) := fun k hk => h k (List.mem_of_mem_take hk)
theorem In26.set {ks : List Int} (h : In26 ks) (i : Nat) {a : Int} (h0 : 0 ≤ a) (h1 : a < 26) : In26 (ks.set i a) := fun k hk => by
  rcases List.mem_or_eq_of_mem_set hk with z | z
  · exact h k z
  · rw [z]; exact ⟨h0, h1⟩
noncomputable def prefN (bs : List Int) : List Str := (List.range 8).map fun i => wdOf (bs.take (i + 1))
theorem pref_nm {bs : List Int} (h : In26 bs) (hl : bs.length = 8) : ∀ z ∈ prefN bs, IsNm z := fun z hz => by
  obtain ⟨i, hi, rfl⟩ := List.mem_map.mp hz
  have hi := List.mem_range.mp hi
  exact wd_nm (by rw [List.length_take]; omega) (by rw [List.length_take]; omega) (h.take _)
theorem lat {b : Int} (h0 : 0 ≤ b) (h1 : b < 26) : atI letters.cps.toList b = some (97 + b.toNat) := by
  have h := atI_nat (letters_at h0 h1)
  rwa [show ((b.toNat : Nat) : Int) = b from by omega] at h
theorem snoc_nd {zs : List Str} {x : Str} (h : zs.Nodup) (hx : x ∉ zs) : (zs ++ [x]).Nodup := by
  refine List.pairwise_append.mpr ⟨h, List.pairwise_singleton _ _, fun a ha b hb => ?_⟩
  rw [List.mem_singleton.mp hb]
  exact fun e => hx (e ▸ ha)
theorem word_bound {ks : List Int} (h : ks.length ≤ 8) : ((ks.map fun k => (⟨#[97 + k.toNat]⟩ : Str)).map (·.length)).sum + (ks.map fun k => (⟨#[97 + k.toNat]⟩ : Str)).length * (("" : Str)).length ≤ 16777216 := by
  have h1 : ((ks.map fun k => (⟨#[97 + k.toNat]⟩ : Str)).map (·.length)).sum ≤ (ks.map fun k => (⟨#[97 + k.toNat]⟩ : Str)).length * 1 := sum_le fun y hy => by
    obtain ⟨k, _, rfl⟩ := List.mem_map.mp hy
    exact Nat.le_refl 1
  have h2 : (("" : Str)).length = 0 := by decide +kernel
  rw [h2]
  rw [List.length_map] at h1 ⊢
  omega
theorem inV_of {s : Str} {zs : List V} (h : V.str s ∈ zs) : inV (.str s) zs = true := by
  unfold inV
  rw [List.any_eq_true]
  exact ⟨_, h, by simp [eqV]⟩
end Mine

set_option maxHeartbeats 4000000
namespace L2
open PySem PySem.Spec PyProof.Rows PySem.W
noncomputable abbrev excObj (C : Addr) (dx : Option Addr) (vs : Array Value) : Obj := { cls := .ref C, dict := dx, data := .fields vs }
section
variable {prog : Program} {w : World} {A : Around} {R : Result → Shared → Prop} {h : Heap} {g : Array GenState} {d : Drawn} {t : Nat} {os : OsState}
variable {nm q : Str} {C N : Addr} {f : Value} {bs bm bmB : List Value} {hdct : Bool} {sn : List Str} {sub : List Value} {ab : Bool} {col : Option Bool} {dd : Option Addr} {k0 k1 k2 k3 k5 : Option Value} {B newId initId : String}
theorem exc_make (F : ExcBaseFacts B newId initId bmB) (T : OwnTail h bmB bm) {rest : List Value}
    (hC : h.get? C = some (excClassObj nm q C N bs bm hdct sn sub ab col dd k0 k1 k2 k3 k5 newId)) (hi : Looks (model prog w) h (typeLookup (.ref C) "__init__") (some f))
    (hb : ∀ self, Looks (model prog w) h (bindSpecial f self) (f, [self])) (hrest : rest.length ≤ sizeLine)
    (hq : codeAny (model prog w) (A.under (.builtin "type.__call__" ⟨.ref C :: rest, []⟩)) (.call f ⟨.ref (h.objs.size + 1) :: rest, []⟩) (InitBack (h.objs.size + 1) R)
      ⟨(h.push { cls := .type "tuple", data := .seq rest.toArray }).push (excObj C none #[.ref h.objs.size, .none, .none, .none, .bool false, .none]), g, d, t, os⟩) :
    codeAny (model prog w) A (.call (.ref C) ⟨rest, []⟩) R ⟨h, g, d, t, os⟩ := by
  have f1 := PySem.tc_lookup
  have f2 := PySem.tc_bind (.ref C)
  have hT : (⟨h, g, d, t, os⟩ : Shared).TypeIs (.ref C) "type" := ⟨_, hC, rfl⟩
  refine codeAny_of_tree ?_
  show wpAny _ _ (callAny (.ref C) _) _ _ _
  repeat (any_goals (first | assumption | with_reducible refine wpAny_loadPart_at hC ?_ | wp_step))
  refine ⟨rfl, ?_⟩
  refine codeAny_call_builtin_at (Code.quiet_builtin _ (by decide +kernel)) PySem.entry_typeCall (wpAny_check_type_call_sub hC ?_)
  repeat (first | with_reducible refine wpAny_loadPart_at hC ?_ | with_reducible refine wpAny_madeBy_exc hC ?_ | wp_step)
  refine codeAny_call_builtin_code (Code.quiet_builtin _ F.quiet) (wpAny_check_new_subT F T hC ?_)
  refine codeAny_exc_new_subT F T hC ?_ hrest
  show wpAny _ _ _ _ _ _
  have kp : ∀ b o, h.get? b = some o → ((h.push { cls := .type "tuple", data := .seq rest.toArray }).push { cls := .ref C, data := .fields #[.ref h.objs.size, .none, .none, .none, .bool false, .none] }).get? b = some o := fun b o e => Heap.get?_push_of_some _ (Heap.get?_push_of_some _ e)
  have hC₁ := kp _ _ hC
  have hget : ((h.push { cls := .type "tuple", data := .seq rest.toArray }).push { cls := .ref C, data := .fields #[.ref h.objs.size, .none, .none, .none, .bool false, .none] }).get? (h.objs.size + 1) = some { cls := .ref C, data := .fields #[.ref h.objs.size, .none, .none, .none, .bool false, .none] } := by heap_get
  have hcC : (Value.ref C :: bm).contains (.ref C) = true := by simp
  have t1 : Looks (model prog w) ((h.push { cls := .type "tuple", data := .seq rest.toArray }).push { cls := .ref C, data := .fields #[.ref h.objs.size, .none, .none, .none, .bool false, .none] }) (typeOf (.ref (h.objs.size + 1))) (.ref C) := (Looks.ld hget).andThen .now
  have s1 : Looks (model prog w) ((h.push { cls := .type "tuple", data := .seq rest.toArray }).push { cls := .ref C, data := .fields #[.ref h.objs.size, .none, .none, .none, .bool false, .none] }) (isSubtype (.ref C) (.ref C)) true := fun A' Q' E' s' k q' => by
    obtain ⟨h', g', d', tk', os'⟩ := s'
    refine wpAny_isSubtype_exc (k _ _ hC₁) ?_
    rw [hcC]
    exact q'
  have i1 := hi.keeps kp
  have b1 := (hb (.ref (h.objs.size + 1))).keeps kp
  show wpAny _ _ _ _ _ ⟨(h.push { cls := .type "tuple", data := .seq rest.toArray }).push { cls := .ref C, data := .fields #[.ref h.objs.size, .none, .none, .none, .bool false, .none] }, g, d, t, os⟩
  unfold isInstance callSpecial? specialOf
  repeat (first | with_reducible refine wpAny_call ?_ | lk)
  refine codeAny_mono hq fun r s' z => ?_
  rcases r with e | (v | _ | _ | _) <;> first | exact z | exact z.elim | skip
  obtain ⟨rfl, z⟩ := z
  exact wpAny_pure (wpAny_pure z)
theorem exc_init' (F : ExcBaseFacts B newId initId bmB) (T : OwnTail h bmB bm) {e : Addr} {dx : Option Addr} {t0 : Addr} {a1 a2 a3 a4 a5 v : Value}
    (hC : h.get? C = some (excClassObj nm q C N bs bm hdct sn sub ab col dd k0 k1 k2 k3 k5 newId)) (he : h.get? e = some { cls := .ref C, dict := dx, data := .fields #[.ref t0, a1, a2, a3, a4, a5] })
    (hq : ∀ h', (∀ b o, b ≠ e → h.get? b = some o → h'.get? b = some o) → h'.get? e = some { cls := .ref C, dict := dx, data := .fields #[.ref h.objs.size, a1, a2, a3, a4, a5] } → R (.ok (.ret .none)) ⟨h', g, d, t, os⟩) :
    codeAny (model prog w) A (.call (.builtin initId) ⟨[.ref e, v], []⟩) R ⟨h, g, d, t, os⟩ := by
  refine (codeAny_call_builtin F.init.plain F.initEntry (wpAny_check_init_subT F T hC he rfl ?_))
  wp_walk
  have hne : e ≠ h.objs.size := Nat.ne_of_lt (Heap.lt_size he)
  refine hq _ (fun b o hb ho => ?_) ?_
  · rw [Heap.get?_update_other _ _ (Ne.symm hb)]
    exact Heap.get?_push_of_some _ ho
  · rw [Heap.get?_update_self _ (Heap.get?_push_of_some _ he) rfl]
    rfl
theorem exc_init {E : Value → Shared → Prop} (F : ExcBaseFacts B newId initId bmB) (T : OwnTail h bmB bm) {e : Addr} {dx : Option Addr} {t0 : Addr} {a1 a2 a3 a4 a5 v : Value} {Q : Value → Shared → Prop}
    (hC : h.get? C = some (excClassObj nm q C N bs bm hdct sn sub ab col dd k0 k1 k2 k3 k5 newId)) (he : h.get? e = some { cls := .ref C, dict := dx, data := .fields #[.ref t0, a1, a2, a3, a4, a5] })
    (hq : ∀ h', (∀ b o, b ≠ e → h.get? b = some o → h'.get? b = some o) → h'.get? e = some { cls := .ref C, dict := dx, data := .fields #[.ref h.objs.size, a1, a2, a3, a4, a5] } → Q .none ⟨h', g, d, t, os⟩) :
    wpAny (model prog w) A (call (.builtin initId) [.ref e, v]) Q E ⟨h, g, d, t, os⟩ := by
  refine wpAny_call (exc_init' F T hC he fun h' k e' => ?_)
  exact hq h' k e'
end
end L2

set_option maxHeartbeats 4000000
namespace L2
open PySem PySem.Spec PyProof.Rows PySem.W
section
variable {prog : Program} {w : World} {A : Around} {E : Value → Shared → Prop} {s : Shared} {K : Frag} {x C : Addr} {ox : Obj} {od : Option Obj} {name : Str} {expr : Bool} {Q : Value → Shared → Prop}
theorem exc_get {v : Value} (X : K.In s.heap) (I : PySem.W.InstAt s.heap x ox C od) (hga : findIn K (.ref C) "__getattribute__" = some (some (.builtin "BaseException.__getattribute__"))) (hb : mroIn K C (.type "BaseException") = some true) (hk : findIn K (.ref C) "__getattr__" = some none)
    (hf : findObj K C od name = some (.value v)) (hh : handedIn v = true) (h : Q v { s with toks := s.toks + 1 }) : wpAny (model prog w) A (getAttr (.ref x) name expr) Q E s := by
  obtain ⟨hh', g, d, t, os⟩ := s
  have L0 := I.type (M := model prog w)
  have L1 := looks_findIn (M := model prog w) X hga
  have L2 := looks_find (M := model prog w) X I hf
  unfold getAttr getAttrBy
  refine wpAny_bind (wpAny_mkText (wpAny_holding (wpAny_bind (L0.at (wpAny_bind (L1.at ?_))))))
  have LH : Looks (model prog w) hh' (hookBefore (.ref C)) none := looks_hook X (by simp only [onTheHeap]; exact hk)
  have LB : Looks (model prog w) hh' (isInstance (.ref x) (.type "BaseException")) true := L0.andThen (looks_mroIn X hb)
  show wpAny _ _ (getAttrByItsOwn (.ref x) (.str name t) (.ref C) (.builtin "BaseException.__getattribute__") true expr) _ _ ⟨hh', g, d, t + 1, os⟩
  unfold getAttrByItsOwn
  refine wpAny_bind (LH.at (wpAny_bind (wpAny_attempt (wpAny_holding ?_))))
  have hx0 : (expr && onTheHeap (Value.builtin "BaseException.__getattribute__")) = false := by cases expr <;> rfl
  have f3 := F.excAttr_ValueError.ga.bind (.ref x)
  unfold callGetattribute
  rw [hx0]
  repeat (any_goals (first | assumption | wp_step))
  show codeAny (model prog w) A (Code.call (Value.builtin "BaseException.__getattribute__") ⟨[.ref x, .str name t], []⟩) _ _
  have hk1 : builtinKind "BaseException.__getattribute__" = some .slot := by decide +kernel
  have hs1 : splitId "BaseException.__getattribute__" = some ("BaseException", "__getattribute__") := by decide +kernel
  have hc : ∀ (A' : Around) (Q' : Unit → Shared → Prop) (E' : Value → Shared → Prop), Q' () ⟨hh', g, d, t + 1, os⟩ → wpAny (model prog w) A' (checkBuiltinCall "BaseException.__getattribute__" ⟨[.ref x, .str name t], []⟩) Q' E' ⟨hh', g, d, t + 1, os⟩ := fun A' Q' E' q' =>
    @check_slot (model prog w) A' E' ⟨hh', g, d, t + 1, os⟩ "BaseException.__getattribute__" "BaseException" "__getattribute__" (.ref x) [.str name t] [] Q' hk1 hs1 LB (F.args_bexc_ga (.ref x) (.str name t)) q'
  refine codeAny_call_builtin F.excAttr_ValueError.ga.plain F.entry_bexc_ga (hc _ _ _ ?_)
  unfold Builtin.«object.__getattribute__»
  repeat (first | with_reducible refine wpAny_bind (L0.at ?_) | with_reducible refine wpAny_bind (L2.at ?_) | wp_step)
  show wpAny _ _ (handedOut v) _ _ _
  rw [handedOut_of hh]; exact wpAny_pure h
end
end L2

set_option maxHeartbeats 4000000
namespace L2
open PySem PySem.Spec PyProof.Rows PySem.W
section
variable {prog : Program} {w : World} {A : Around} {E : Value → Shared → Prop} {s : Shared} {K : Frag} {x C : Addr} {ox : Obj} {od : Option Obj} {name : Str} {expr : Bool} {Q : Value → Shared → Prop}
theorem exc_class (X : K.In s.heap) (I : PySem.W.InstAt s.heap x ox C od) (hga : findIn K (.ref C) "__getattribute__" = some (some (.builtin "BaseException.__getattribute__"))) (hb : mroIn K C (.type "BaseException") = some true) (hk : findIn K (.ref C) "__getattr__" = some none)
    (hf : findObj K C od "__class__" = some (.bind (.builtin "getset_descriptor.__get__") (.builtin "object.__class__"))) (hm : mroIn K C (.type "object") = some true) {Q : Option Value → Shared → Prop} (h : Q (some (.ref C)) { s with toks := s.toks + 1 }) : wpAny (model prog w) A (getAttr? (.ref x) "__class__") Q E s := by
  obtain ⟨hh', g, d, t, os⟩ := s
  have L0 := I.type (M := model prog w)
  have L1 := looks_findIn (M := model prog w) X hga
  have L2 := looks_find (M := model prog w) X I hf
  unfold getAttr? getAttrBy?
  refine wpAny_bind (wpAny_mkText (wpAny_bind (wpAny_attempt ?_)))
  unfold getAttrBy
  refine wpAny_holding (wpAny_bind (L0.at (wpAny_bind (L1.at ?_))))
  have LH : Looks (model prog w) hh' (hookBefore (.ref C)) none := looks_hook X (by simp only [onTheHeap]; exact hk)
  have LB : Looks (model prog w) hh' (isInstance (.ref x) (.type "BaseException")) true := L0.andThen (looks_mroIn X hb)
  show wpAny _ _ (getAttrByItsOwn (.ref x) (.str "__class__" t) (.ref C) (.builtin "BaseException.__getattribute__") false false) _ _ ⟨hh', g, d, t + 1, os⟩
  unfold getAttrByItsOwn
  refine wpAny_bind (LH.at (wpAny_bind (wpAny_attempt (wpAny_holding ?_))))
  have hx0 : (false && onTheHeap (Value.builtin "BaseException.__getattribute__")) = false := rfl
  have f3 := F.excAttr_ValueError.ga.bind (.ref x)
  unfold callGetattribute
  rw [hx0]
  repeat (any_goals (first | assumption | wp_step))
  show codeAny (model prog w) A (Code.call (Value.builtin "BaseException.__getattribute__") ⟨[.ref x, .str "__class__" t], []⟩) _ _
  have hk1 : builtinKind "BaseException.__getattribute__" = some .slot := by decide +kernel
  have hs1 : splitId "BaseException.__getattribute__" = some ("BaseException", "__getattribute__") := by decide +kernel
  have hc : ∀ (A' : Around) (Q' : Unit → Shared → Prop) (E' : Value → Shared → Prop), Q' () ⟨hh', g, d, t + 1, os⟩ → wpAny (model prog w) A' (checkBuiltinCall "BaseException.__getattribute__" ⟨[.ref x, .str "__class__" t], []⟩) Q' E' ⟨hh', g, d, t + 1, os⟩ := fun A' Q' E' q' =>
    @check_slot (model prog w) A' E' ⟨hh', g, d, t + 1, os⟩ "BaseException.__getattribute__" "BaseException" "__getattribute__" (.ref x) [.str "__class__" t] [] Q' hk1 hs1 LB (F.args_bexc_ga (.ref x) (.str "__class__" t)) q'
  refine codeAny_call_builtin F.excAttr_ValueError.ga.plain F.entry_bexc_ga (hc _ _ _ ?_)
  unfold Builtin.«object.__getattribute__»
  repeat (first | with_reducible refine wpAny_bind (L0.at ?_) | with_reducible refine wpAny_bind (L2.at ?_) | wp_step)
  refine class_get X I hm ?_
  repeat (first | exact h | wp_step)
theorem kitx_exc (hcl : (clsIn K C).isSome = true) (hga : findIn K (.ref C) "__getattribute__" = some (some (.builtin "BaseException.__getattribute__"))) (hb : mroIn K C (.type "BaseException") = some true) (hk : findIn K (.ref C) "__getattr__" = some none)
    (hm : mroIn K C (.type "object") = some true) (hf : ∀ od, findObj K C od "__class__" = some (.bind (.builtin "getset_descriptor.__get__") (.builtin "object.__class__"))) :
    KitX K (.ref x) (.ref C) (fun h => ∃ ox od, PySem.W.InstAt h x ox C od) where
  ty := fun _ _ _ I => let ⟨_, _, I⟩ := I; I.type
  it := fun _ _ X _ => by
    obtain ⟨cdD, hcD⟩ := Option.isSome_iff_exists.mp hcl
    unfold clsIn at hcD
    split at hcD
    · rename_i c' d' cd' sl' ho
      intro A' Q' E' s' k q
      unfold isType loadHead
      exact wpAny_bind (wpAny_loadPart (k _ _ (X _ _ ho)) (wpAny_pure q))
    · cases hcD
  ne := fun h tp dd its n sl X htp => by
    obtain ⟨cdD, hcD⟩ := Option.isSome_iff_exists.mp hcl
    refine Bool.eq_false_iff.mpr fun q => ?_
    have e : C = tp := Value.ref.inj (beq_iff_eq.mp q)
    subst e
    unfold clsIn at hcD
    split at hcD
    · rename_i c' d' cd' sl' ho
      have z := (X _ _ ho).symm.trans htp
      cases z
    · cases hcD
  ca := fun X I k => let ⟨_, _, I⟩ := I; exc_class X I hga hb hk (hf _) hm k
end
end L2

set_option maxHeartbeats 4000000
namespace L2
open PySem PySem.Spec PyProof.Rows PySem.W Builtin Builtin.ObjectAttr
noncomputable def onlyVE : List Value → Bool
  | .ref _ :: r => onlyVE r
  | l => l == [.type "ValueError", .type "Exception", .type "BaseException", .type "object"]
theorem onlyVE_ref (c : Addr) (r : List Value) : onlyVE (.ref c :: r) = onlyVE r := by rw [onlyVE]
theorem onlyVE_end : ∀ {l : List Value}, onlyVE l = true → (∃ c r, l = .ref c :: r) ∨ l = [.type "ValueError", .type "Exception", .type "BaseException", .type "object"]
  | .ref c :: r, _ => .inl ⟨c, r, rfl⟩
  | [], e => by cases e
  | .type n :: r, e => .inr (eq_of_beq (by unfold onlyVE at e; exact e))
  | .none :: r, e => .inr (eq_of_beq (by unfold onlyVE at e; exact e))
  | .bool _ :: r, e => .inr (eq_of_beq (by unfold onlyVE at e; exact e))
  | .int _ _ :: r, e => .inr (eq_of_beq (by unfold onlyVE at e; exact e))
  | .str _ _ :: r, e => .inr (eq_of_beq (by unfold onlyVE at e; exact e))
  | .builtin _ :: r, e => .inr (eq_of_beq (by unfold onlyVE at e; exact e))
  | .float _ _ :: r, e => .inr (eq_of_beq (by unfold onlyVE at e; exact e))
  | .bytes _ _ :: r, e => .inr (eq_of_beq (by unfold onlyVE at e; exact e))
  | .ellipsis :: r, e => .inr (eq_of_beq (by unfold onlyVE at e; exact e))
  | .notImplemented :: r, e => .inr (eq_of_beq (by unfold onlyVE at e; exact e))
theorem refuse_onlyVE (self : Value) : ∀ {l : List Value}, onlyVE l = true → refuseLoop self "__setattr__" l = pure ()
  | l, e => by
    rcases onlyVE_end e with ⟨c, r, rfl⟩ | rfl
    · rw [refuseLoop_ref]; exact refuse_onlyVE self (l := r) (by rw [onlyVE_ref] at e; exact e)
    · exact PySem.F.store_ValueError.passes self
termination_by l => l.length
theorem onlyVE_has : ∀ {l : List Value}, onlyVE l = true → l.contains (.type "object") = true
  | l, e => by
    rcases onlyVE_end e with ⟨c, r, rfl⟩ | rfl
    · rw [List.contains_cons, onlyVE_has (l := r) (by rw [onlyVE_ref] at e; exact e), Bool.or_true]
    · decide
termination_by l => l.length
noncomputable def overVE (K : Frag) (C : Addr) : Bool := (clsIn K C).any fun cd => onlyVE cd.mro
section
variable {prog : Program} {w : World} {A : Around} {s : Shared} {K : Frag} {x C : Addr} {R : Result → Shared → Prop}
theorem osa_openX {ox : Obj} {od : Option Obj} {name : Str} {tk : Tok} {v : Value} {r : Option Value} (X : K.In s.heap) (I : InstAt s.heap x ox C od) (hp : overVE K C = true) (ht : takerIn K C name = some r)
    (h : ∀ b, wpAny (model prog w) A.in1 (match r with | some a => Builtin.ObjectAttr.setByDescriptor a (.ref x) v | none => Builtin.ObjectAttr.storeInOwnDict (.ref x) (.ref C) (.str name tk) name v b)
      (fun fin s' => match fin with | .done f => R (.ok f) s' | .again c' => c'.quiet = true ∧ codeAny (model prog w) A c' R s') (fun e s' => R (.error e) s') s) :
    codeAny (model prog w) A (.call (.builtin "object.__setattr__") ⟨[.ref x, .str name tk, v], []⟩) R s := by
  have SF := PySem.F.store_object
  obtain ⟨cd, hc, ho⟩ := any_some hp
  have ne : cd.mro.isEmpty = false := by cases q : cd.mro with | nil => rw [q] at ho; cases ho | cons _ _ => rfl
  have sub : Looks (model prog w) s.heap (isInstance (.ref x) (.type "object")) true := I.type.andThen (looks_mroIn X (by unfold mroIn; rw [hc, Option.bind_some, if_neg (by rw [ne]; decide), onlyVE_has ho]))
  refine codeAny_call_builtin SF.slot.plain SF.entry (@check_slot (model prog w) _ _ s "object.__setattr__" "object" "__setattr__" (.ref x) [.str name tk, v] [] _ SF.kind SF.split sub (SF.args (.ref x) (.str name tk) v) ?_)
  obtain ⟨attr, ha, hr⟩ := Option.bind_eq_some_iff.mp ht
  have hm : Looks (model prog w) s.heap (mroOf (.ref C)) cd.mro := (looks_clsIn X hc).andThen .now
  have L3 : Looks (model prog w) s.heap (storeTaker? attr) r := by
    cases attr with
    | none => cases hr; exact .now
    | some a =>
      obtain ⟨b, hb, rfl⟩ := Option.map_eq_some_iff.mp hr
      refine (looks_takesIn X hb).andThen ?_
      cases b <;> exact .now
  rw [osa_eq, refuse_eq]
  refine wpAny_bind (wpAny_bind (I.type.here (wpAny_bind (hm.here ?_))))
  rw [refuse_onlyVE _ ho]
  refine wpAny_pure (wpAny_bind (I.type.here (wpAny_bind ((looks_findIn X ha).here (wpAny_bind (L3.here ?_))))))
  exact h _
end

section
variable {prog : Program} {w : World} {A : Around} {E : Value → Shared → Prop} {s : Shared} {K : Frag} {x C : Addr} {name : Str} {v : Value} {vs : Array Value}
theorem exc_set0 {Q : Unit → Shared → Prop} (X : K.In s.heap) (hx : s.heap.get? x = some (excObj C none vs))
    (hs : findIn K (.ref C) "__setattr__" = some (some (.builtin "object.__setattr__"))) (hp : overVE K C = true) (ht : takerIn K C name = some none) (hh : hasDictIn K C = true)
    (h : ∀ h' t', (∀ b o, b ≠ x → s.heap.get? b = some o → h'.get? b = some o) → h'.get? x = some (excObj C (some s.heap.objs.size) vs) → h'.Ns1 s.heap.objs.size (fun y => if y = name then some v else none) →
      Q () { s with heap := h', toks := t' }) :
    wpAny (model prog w) A (setAttr (.ref x) name v) Q E s := by
  have I : InstAt s.heap x (excObj C none vs) C none := ⟨hx, rfl, rfl, True.intro⟩
  refine set_plain X I hs (osa_openX (s := { s with toks := s.toks + 1 }) (r := none) X I hp ht fun b => ?_)
  obtain ⟨cd, hc, hd'⟩ := any_some hh
  refine wpAny_bind (wpAny_pure (wpAny_bind (wpAny_bind (wpAny_loadPart hx (wpAny_bind (Looks.here (s := { s with toks := s.toks + 1 }) (looks_clsIn X hc) ?_))))))
  rw [hd']
  have hx₁ : (s.heap.push { cls := .type "dict", data := .dict #[] }).get? x = some (excObj C none vs) := Heap.get?_push_of_some _ hx
  have hxs : x ≠ s.heap.objs.size := Nat.ne_of_lt (Heap.lt_size hx)
  refine wpAny_bind (wpAny_alloc' ?_)
  refine wpAny_bind (wpAny_update' hx₁ ?_)
  refine wpAny_pure ?_
  have hgd : ((s.heap.push { cls := .type "dict", data := .dict #[] }).update x fun o => { cls := o.cls, dict := some s.heap.objs.size, data := o.data, slots := o.slots }).get? s.heap.objs.size
      = some { cls := .type "dict", data := .dict #[] } :=
    (Heap.get?_update_ne _ _ _ _ hxs.symm).trans (Heap.get?_push_at rfl rfl)
  have hnd : ((s.heap.push { cls := .type "dict", data := .dict #[] }).update x fun o => { cls := o.cls, dict := some s.heap.objs.size, data := o.data, slots := o.slots }).Ns s.heap.objs.size (fun _ => none) :=
    ⟨_, #[], _, hgd, rfl, fun e he => absurd he (by simp), fun _ => rfl⟩
  show wpAny _ _ (storeInDict s.heap.objs.size (.str name s.toks) name v) _ _ _
  unfold storeInDict newKeyGuard
  refine wpAny_bind (wpAny_pure (wpAny_bind (wpAny_nsSet1 (Heap.Ns1.of_empty hnd) fun h' hn' hs => ?_)))
  obtain ⟨oD, esD, epD, hoD, hdD, hcD⟩ := hn'.count (Within.cons name v Within.nil)
  refine wpAny_bind (wpAny_lookBehind hoD (by rw [hdD]; exact pastItsLine_dict (Nat.le_trans hcD (by rw [List.length_cons, List.length_nil, sizeLine_eq]; omega))) ?_)
  refine wpAny_pure (h _ _ (fun b ob hbx hb => ?_) ?_ hn')
  · exact (hs.2 b (Nat.ne_of_lt (Heap.lt_size hb))).trans ((Heap.get?_update_ne _ _ _ _ hbx).trans (Heap.get?_push_of_some _ hb))
  · exact (hs.2 x hxs).trans (Heap.get?_update_self _ hx₁ rfl)
end
end L2

set_option maxHeartbeats 4000000
namespace L2
open PySem PySem.Spec PyProof.Rows PySem.W
noncomputable def ExO (fl : Bool) (x C : Addr) (dx : Option Addr) : HO := .ext fun h => ∃ t0 a1 a2 a3 a4 a5, h.get? x = some (excObj C dx #[.ref t0, a1, a2, a3, a4, a5]) ∧ (fl = true → a1 = .none)
noncomputable def XdO (p : Addr) (fs : List (Str × V)) : HO := .ext fun h => ∃ mA, h.Ns1 p mA ∧ (∀ f, RelO (fs.lookup f) (mA f)) ∧ Within mA (fs.map (·.1))
section
variable {P : Program} {w : World} {H : Hp} {h : Heap} {fl : Bool} {x p C : Addr} {dx : Option Addr} {fs : List (Str × V)}
theorem exO_ok {t0 : Addr} {a1 a2 a3 a4 a5 : Value} (e : h.get? x = some (excObj C dx #[.ref t0, a1, a2, a3, a4, a5])) (hfl : fl = true → a1 = .none) : ObjOk P w H h x (ExO fl x C dx) :=
  ⟨⟨_, _, _, _, _, _, e, hfl⟩, ⟨_, e⟩, fun h1 h2 ⟨t0, a1, a2, a3, a4, a5, q, z⟩ k => ⟨t0, a1, a2, a3, a4, a5, k _ q, z⟩⟩
theorem xdO_ok {mA : Str → Option Value} (n : h.Ns1 p mA) (r : ∀ f, RelO (fs.lookup f) (mA f)) (wi : Within mA (fs.map (·.1))) : ObjOk P w H h p (XdO p fs) :=
  ⟨⟨mA, n, r, wi⟩, let ⟨o, _, _, e, _⟩ := n; ⟨o, e⟩, fun h1 h2 ⟨mA, ⟨o, es, ep, e, c⟩, r⟩ k => ⟨mA, ⟨o, es, ep, k _ e, c⟩, r⟩⟩
theorem exO_get (hok : HOk P w H h) (e : H x = some (ExO fl x C dx)) : ∃ t0 a1 a2 a3 a4 a5, h.get? x = some (excObj C dx #[.ref t0, a1, a2, a3, a4, a5]) ∧ (fl = true → a1 = .none) := (show ObjOk P w H h x (ExO fl x C dx) from hok x _ e).1
theorem xdO_get (hok : HOk P w H h) (e : H p = some (XdO p fs)) : ∃ mA, h.Ns1 p mA ∧ (∀ f, RelO (fs.lookup f) (mA f)) ∧ Within mA (fs.map (·.1)) := (show ObjOk P w H h p (XdO p fs) from hok p _ e).1
end
structure ClsX (K : Frag) (C : Addr) : Prop where
  ga : findIn K (.ref C) "__getattribute__" = some (some (.builtin "BaseException.__getattribute__"))
  bx : mroIn K C (.type "BaseException") = some true
  nga : findIn K (.ref C) "__getattr__" = some none
  ob : mroIn K C (.type "object") = some true
  hd : hasDictIn K C = true
  ov : overVE K C = true
  sa : findIn K (.ref C) "__setattr__" = some (some (.builtin "object.__setattr__"))
  cl : findIn K (.ref C) "__class__" = some (some (.builtin "object.__class__"))
  cg : specialIn K (.builtin "object.__class__") "__get__" = some (some (.builtin "getset_descriptor.__get__"))
  ct : takesIn K (.builtin "object.__class__") = some true
theorem ClsX.cls {K : Frag} {C : Addr} (c : ClsX K C) : (clsIn K C).isSome = true := by
  obtain ⟨cd, hc, _⟩ := any_some c.hd
  rw [hc]; rfl
theorem ClsX.fo {K : Frag} {C : Addr} (c : ClsX K C) (od : Option Obj) : findObj K C od "__class__" = some (.bind (.builtin "getset_descriptor.__get__") (.builtin "object.__class__")) := by
  obtain ⟨cd, hc, _⟩ := any_some c.hd
  unfold findObj
  rw [hc, Option.bind_some, c.cl, Option.bind_some]
  dsimp only
  rw [c.cg, Option.bind_some]
  dsimp only
  rw [c.ct, Option.bind_some]
section
variable {X : Cx} {pins : List (Addr × Obj)} {σ : St} {H : Hp} {s : Shared} {fl : Bool} {a C dx : Addr} {fs : List (Str × V)} {f : Str} {v : V} {A : Around} {E : Value → Shared → Prop}
theorem xget_ok {b : Bool} {Q : Value → Shared → Prop} (I : Inv X pins σ H s) (e : H a = some (ExO fl a C (some dx))) (d : H dx = some (XdO dx fs)) (c : ClsX X.K C) (n : NoAttr X.K C f) (l : fs.lookup f = some v)
    (h : ∀ u s', Inv X pins σ H s' → RelV v u → Q u s') : wpAny (model X.prog X.w) A (getAttr (.ref a) f b) Q E s := by
  obtain ⟨t0, a1, a2, a3, a4, a5, hx, hfl⟩ := exO_get I.hok e
  obtain ⟨mA, hn, r, _⟩ := xdO_get I.hok d
  obtain ⟨u, hu, ru⟩ := RelO.some_of (v := v) (o := mA f) (by rw [← l]; exact r f)
  obtain ⟨od, ho, hl⟩ := lookIn_ns hn
  have J : InstAt s.heap a (excObj C (some dx) #[.ref t0, a1, a2, a3, a4, a5]) C (some od) := ⟨hx, rfl, rfl, ho⟩
  exact exc_get I.kIn J c.ga c.bx c.nga (findObj_own c.hd n rfl (by rw [hl, hu])) (handed_of ru) (h u _ (I.tok _) ru)
theorem xset0_ok {y : V} {u : Value} {Q : Unit → Shared → Prop} (I : Inv X pins σ H s) (e : H a = some (ExO fl a C none)) (c : ClsX X.K C) (n : NoAttr X.K C f) (ry : RelV y u)
    (h : ∀ p s', H p = none → p ≠ a → Inv X pins σ (upd (upd H p (XdO p [(f, y)])) a (ExO fl a C (some p))) s' → Q () s') : wpAny (model X.prog X.w) A (setAttr (.ref a) f u) Q E s := by
  obtain ⟨t0, a1, a2, a3, a4, a5, hx, hfl⟩ := exO_get I.hok e
  have hlt : a < s.heap.objs.size := Heap.lt_size hx
  have hne : s.heap.objs.size ≠ a := Nat.ne_of_gt hlt
  refine exc_set0 I.kIn hx c.sa c.ov n.taker c.hd fun h' t' k hx' hn' => h s.heap.objs.size _ (I.hok.fresh (Nat.le_refl _)) hne ?_
  have g1 : (h'.update a fun _ => excObj C none #[.ref t0, a1, a2, a3, a4, a5]).get? a = some (excObj C none #[.ref t0, a1, a2, a3, a4, a5]) := Heap.get?_update_self _ hx' rfl
  have g2 : ∀ b, b ≠ a → (h'.update a fun _ => excObj C none #[.ref t0, a1, a2, a3, a4, a5]).get? b = h'.get? b := fun b hb => Heap.get?_update_ne _ _ _ _ hb
  have I1 := I.laid (a := s.heap.objs.size) (o := XdO s.heap.objs.size [(f, y)]) (h' := h'.update a fun _ => excObj C none #[.ref t0, a1, a2, a3, a4, a5]) (t' := t') (fun b o q => by
      by_cases hb : b = a
      · subst hb; rw [hx] at q; cases q; exact g1
      · rw [g2 b hb]; exact k b o hb q) (Nat.le_refl _) (by
      obtain ⟨o, es, ep, q, r⟩ := hn'
      refine xdO_ok ⟨o, es, ep, by rw [g2 _ hne]; exact q, r⟩ (fun g => ?_) (fun g hg => ?_)
      · show RelO (List.lookup g [(f, y)]) (if g = f then some u else none)
        by_cases z : g = f
        · have hb : (g == f) = true := beq_iff_eq.mpr z
          simp only [List.lookup, hb, if_pos z]; exact ry
        · have hb : (g == f) = false := beq_eq_false_iff_ne.mpr z
          simp only [List.lookup, hb, if_neg z]; exact True.intro
      · by_cases z : g = f
        · rw [z]; simp
        · exact absurd (if_neg z) hg)
  refine I1.write (x := a) (e := a) (o := ExO fl a C (some s.heap.objs.size)) (t' := t') (h' := h') (by rw [upd_ne hne.symm, e]; exact True.intro) (.inl rfl) (fun b o hb q => by rw [← g2 b hb]; exact q) ⟨_, hx'⟩ (exO_ok hx' hfl)
theorem xinst_ok {dx : Option Addr} {c : Value} {b : Bool} {Q : Value → Shared → Prop} (I : Inv X pins σ H s) (e : H a = some (ExO fl a C dx)) (cl : ClsX X.K C) (k : kitOne X.K (.ref C) c = some b) (dxd : ∀ p, dx = some p → ∃ fs, H p = some (XdO p fs))
    (h : ∀ tk, Q (.bool b) { s with toks := tk }) : wpAny (model X.prog X.w) A (call (.builtin "isinstance") [.ref a, c]) Q E s := by
  obtain ⟨t0, a1, a2, a3, a4, a5, hx, hfl⟩ := exO_get I.hok e
  have J : ∃ ox od, PySem.W.InstAt s.heap a ox C od := by
    cases dx with
    | none => exact ⟨_, none, hx, rfl, rfl, True.intro⟩
    | some p =>
      obtain ⟨fs, d⟩ := dxd p rfl
      obtain ⟨mA, hn, _⟩ := xdO_get I.hok d
      obtain ⟨od, ho, _⟩ := lookIn_ns hn
      exact ⟨_, some od, hx, rfl, rfl, ho⟩
  exact kia_one (kitx_exc cl.cls cl.ga cl.bx cl.nga cl.ob cl.fo) I.kIn J k (fun z => nomatch z) h
end
noncomputable def tXFld (K : Frag) (ta : TE) (f : Str) : TE := fun σ H Q => ta σ H fun x H1 => ∃ fl a C dx fs v, x = .ref a ∧ H1 a = some (ExO fl a C (some dx)) ∧ H1 dx = some (XdO dx fs) ∧ ClsX K C ∧ NoAttr K C f ∧ fs.lookup f = some v ∧ Q v H1
noncomputable def sXFld0 (K : Frag) (ta tv : TE) (f : Str) : TS := fun D σ H => tv σ H fun y H1 => ta σ H1 fun x H2 => ∃ fl a C, x = .ref a ∧ H2 a = some (ExO fl a C none) ∧ ClsX K C ∧ NoAttr K C f ∧
  ∀ p, H2 p = none → p ≠ a → D.nx σ (upd (upd H2 p (XdO p [(f, y)])) a (ExO fl a C (some p)))
noncomputable def clsV : V → Option Value
  | .ref a => some (.ref a)
  | .ty n => some (.type n)
  | _ => none
theorem clsV_eq {y : V} {c u : Value} (e : clsV y = some c) (r : RelV y u) : u = c := by
  cases y <;> cases e <;> exact r
noncomputable def rInstX (K : Frag) : List V → Hp → VK → Prop := fun xs H Q => ∃ fl a C dx y c b, xs = [.ref a, y] ∧ clsV y = some c ∧ H a = some (ExO fl a C dx) ∧ (∀ p, dx = some p → ∃ fs, H p = some (XdO p fs)) ∧ ClsX K C ∧ kitOne K (.ref C) c = some b ∧ Q (.bl b) H
section
variable {X : Cx} {o e value : Expr} {f : Str} {pos pos' tpos : Pos} {ta tv : TE}
theorem pe_xfld (he : PE X e ta) (hb : attributeBase e f X.env (eval e X.env) = eval e X.env) : PE X (.Attribute e f pos) (tXFld X.K ta f) := by
  intro pins s σ H Q I h
  refine attr_of hb (thn (he pins s σ H _ I h) fun u s1 ⟨x, H1, I1, rx, fl, a, C, dx, fs, v, ex, ea, ed, c, n, l, q⟩ => ?_)
  subst ex
  obtain rfl : u = Value.ref a := rx
  exact xget_ok I1 ea ed c n l fun u' s2 I2 ru => ⟨v, H1, I2, ru, q⟩
theorem ps_xfld0 (ha : PE X o ta) (hv : PE X value tv) (hs : swapsWith value (some (.Attribute o f pos')) pos.line X.env = pure false) : PS X (.Assign [.Attribute o f pos'] value pos) (sXFld0 X.K ta tv f) := by
  intro pins s σ H D I h
  refine plainObj_wpAny_Assign_Attribute (thn (hv pins s σ H _ I h) fun u s1 ⟨y, H1, I1, ry, q⟩ => thn (ha pins s1 σ H1 _ I1 q) fun ov s2 ⟨x, H2, I2, rx, fl, a, C, ex, ea, c, n, q2⟩ => ?_) hs
  subst ex
  obtain rfl : ov = Value.ref a := rx
  exact xset0_ok I2 ea c n ry fun p s3 h1 h2 I3 => ⟨σ, _, I3, q2 p h1 h2⟩
theorem call_instX : CallR X (.builtin "isinstance") (rInstX X.K) := by
  intro pins s σ H xs us Q I r h
  obtain ⟨fl, a, C, dx, y, c, b, rfl, ry, ea, ed, cl, k, q⟩ := h
  obtain ⟨u, u2, rfl, rx, ry2⟩ := vals2 r
  obtain rfl : u = Value.ref a := rx
  obtain rfl := clsV_eq ry ry2
  exact xinst_ok I ea cl k ed fun tk => ⟨.bl b, H, I.tok tk, rfl, q⟩
end
end L2

set_option maxHeartbeats 4000000
namespace L2
open PySem PySem.Spec PyProof.Rows PySem.W
noncomputable abbrev TJ := Str → St → Hp → VK → Prop
noncomputable def PJ (X : Cx) (es : List Expr) (t : TJ) : Prop :=
  ∀ (pins : List (Addr × Obj)) (s : Shared) (σ : St) (H : Hp) (out : Str) (Q : VK), Inv X pins σ H s → t out σ H Q → wpAny (model X.prog X.w) X.A (joinParts out (evalEach es X.env)) (EP X pins σ Q) X.xe s
noncomputable def jNil : TJ := fun out _ H Q => out.length ≤ sizeLine ∧ Q (.str out) H
noncomputable def jCons (te : TE) (tr : TJ) : TJ := fun out σ H Q => te σ H fun x H1 => ∃ y : Str, x = .str y ∧ (out ++ y).length ≤ sizeLine ∧ tr (out ++ y) σ H1 Q
noncomputable def tFmt (te : TE) : TE := fun σ H Q => te σ H fun x H1 => (∃ i : Int, x = .int i ∧ i.natAbs.log2 < 1920 ∧ Q (.str (toString i)) H1) ∨ ∃ y : Str, x = .str y ∧ y.length ≤ sizeLine ∧ Q (.str y) H1
section
variable {X : Cx} {e v1 v2 : Expr} {es : List Expr} {te : TE} {tr : TJ} {pos : Pos}
theorem pj_nil : PJ X [] jNil := fun pins s σ H out Q I ⟨h1, h2⟩ => joinParts_nil ⟨.str out, H, I.tok _, ⟨_, rfl⟩, h2⟩ h1
theorem pj_cons (he : PE X e te) (hr : PJ X es tr) (hs : evalEach (e :: es) X.env = eval e X.env :: evalEach es X.env := by rfl) : PJ X (e :: es) (jCons te tr) := by
  intro pins s σ H out Q I h
  rw [hs]
  refine joinParts_cons (thn (he pins s σ H _ I h) fun u s1 ⟨x, H1, I1, rx, y, ex, hl, q⟩ => ?_)
  subst ex
  obtain ⟨t, rfl⟩ := (show ∃ t, u = Value.str y t from rx)
  exact ⟨hl, hr pins s1 σ H1 _ Q I1 q⟩
theorem pe_joined (h : PJ X (v1 :: v2 :: es) tr) : PE X (.JoinedStr (v1 :: v2 :: es) pos) (tr Str.empty) := fun pins s σ H Q I q => JoinedStr_many (h pins s σ H _ Q I q)
theorem pe_fmt (he : PE X e te) : PE X (.FormattedValue e (-1) none pos) (tFmt te) := by
  intro pins s σ H Q I h
  refine FormattedValue_plain (thn (he pins s σ H _ I h) fun u s1 ⟨x, H1, I1, rx, q⟩ => ?_)
  rcases q with ⟨i, ex, hl, q⟩ | ⟨y, ex, hl, q⟩
  · subst ex
    obtain ⟨t, rfl⟩ := (show ∃ t, u = Value.int i t from rx)
    exact formatField_int_small hl ⟨.str (toString i), H1, I1.tok _, ⟨_, rfl⟩, q⟩
  · subst ex
    obtain ⟨t, rfl⟩ := (show ∃ t, u = Value.str y t from rx)
    exact formatField_str (fun t' tk => ⟨.str y, H1, I1.tok _, ⟨_, rfl⟩, q⟩) hl
end
noncomputable abbrev veMro : List Value := [.type "ValueError", .type "Exception", .type "BaseException", .type "object"]
noncomputable def ExC (K : Frag) (C : Addr) : Prop := ∃ nm q N bs bm hdct sn sub ab col dd k0 k1 k2 k3 k5, K.lookup C = some (excClassObj nm q C N bs bm hdct sn sub ab col dd k0 k1 k2 k3 k5 "ValueError.__new__") ∧ ∀ h, K.In h → OwnTail h veMro bm
theorem upd_self {H : Hp} {a : Addr} {o : HO} (e : H a = some o) : upd H a o = H := by
  funext b
  by_cases hb : b = a
  · subst hb; rw [upd_same, e]
  · rw [upd_ne hb]
section
variable {X : Cx} {pins : List (Addr × Obj)} {σ : St} {H : Hp} {s : Shared} {fl : Bool} {a C B : Addr} {dx : Option Addr} {A : Around} {E : Value → Shared → Prop}
theorem xinit_ok {u : Value} {Q : Value → Shared → Prop} (I : Inv X pins σ H s) (e : H a = some (ExO fl a C dx)) (c : ExC X.K C) (h : ∀ s', Inv X pins σ H s' → Q .none s') :
    wpAny (model X.prog X.w) A (call (.builtin "ValueError.__init__") [.ref a, u]) Q E s := by
  obtain ⟨nm, q, N, bs, bm, hdct, sn, sub, ab, col, dd, k0, k1, k2, k3, k5, hc, T⟩ := c
  obtain ⟨t0, a1, a2, a3, a4, a5, hx, hfl⟩ := exO_get I.hok e
  obtain ⟨hh, g, d, t, os⟩ := s
  refine exc_init PySem.F.excBase_ValueError (T _ I.kIn) (I.kIn _ _ hc) hx fun h' k hx' => h _ ?_
  have z := I.write (x := a) (e := a) (o := ExO fl a C dx) (t' := t) (h' := h') (by rw [e]; exact True.intro) (.inl rfl) (fun b o hb q => k b o hb q) ⟨_, hx'⟩ (exO_ok hx' hfl)
  rwa [upd_self e] at z
noncomputable def tXInit (K : Frag) (t : TA) : TE := fun σ H Q => t σ H fun vs H1 => ∃ fl a C dx y, vs = [.ref a, y] ∧ H1 a = some (ExO fl a C dx) ∧ ExC K C ∧ Q .non H1
theorem pe_xinit {x : Str} {e1 : Expr} {es : List Expr} {t : TA} {p apos pos : Pos} {pl : Sem Bool} (hg : Gl X x) (hm : X.mg x = some (.ref B)) (hs : specialIn X.K (.ref B) "__getattribute__" = some (some (.builtin "type.__getattribute__")))
    (hr : readsIn X.K B (.type "type") = true) (hf : findCls X.K (.ref B) (.type "type") "__init__" = some (.val (.builtin "ValueError.__init__"))) (ha : PA X (e1 :: es) t)
    (hdb : (x == ("__debug__" : Str)) = false := by decide) (he : starEach (e1 :: es) X.env = (false, eval e1 X.env) :: starEach es X.env := by rfl) (hpl : (backTo pos (starEach es X.env)).any (·.1) = false := by rfl)
    (ht : eval (.Call (.Attribute (.Name x p) "__init__" apos) (e1 :: es) [] pos) X.env = (do
      let ov ← eval (.Name x p) X.env
      standAt apos.atName
      let (f, first) ← holding [ov] (getMethod ov "__init__" pl)
      callWith pos f first (backTo pos (starEach (e1 :: es) X.env)) (backToKw pos (keywordEach [] X.env))) := by rfl) :
    PE X (.Call (.Attribute (.Name x p) "__init__" apos) (e1 :: es) [] pos) (tXInit X.K t) := by
  intro pins s σ H Q I h
  refine PySem.W.methodCall_KW (pl := pl) (ld_glob I hg hm ?_ hdb) ht
  refine method_cls I.kIn hs (cls_value I.kIn hr hf rfl ?_)
  have I0 : Inv X pins σ H { s with toks := s.toks + 1 } := I.tok _
  refine PyProof.Rows.callWith_builtin1 (thn (ha pos pins _ σ H _ I0 h) fun us s1 ⟨vs, H1, I1, r1, fl, a, C, dx, y, ev, ea, c, q1⟩ => ?_) he hpl
  subst ev
  obtain ⟨u, u2, rfl, rx, _⟩ := vals2 r1
  obtain rfl : u = Value.ref a := rx
  exact xinit_ok I1 ea c fun s' I' => ⟨.non, H1, I', rfl, q1⟩
end
end L2

set_option maxHeartbeats 4000000
namespace L2
open PySem PySem.Spec PyProof.Rows PySem.W
noncomputable def tMakeX (C : Addr) (sp : Sp) (dvs : List V) (E : XK) (t : TA) : TE := fun σ H Q => t σ H fun vs H1 => ∀ x, H1 x = none →
  sp (.ref x :: (vs ++ dvs)) (upd H1 x (ExO true x C none)) (fun v H2 => v = .non ∧ Q (.ref x) H2) E
section
variable {X : Cx} {CX : CXT} {k : Nat} {f C : Addr} {fd : FuncData} {ps : List Str} {sp : Sp} {dvs : List V} {ds : List Value} {E : XK} {x : Str} {p pos : Pos} {e : Expr} {es : List Expr} {t : TA}
theorem Inv.madeX {pins : List (Addr × Obj)} {σ : St} {H : Hp} {s : Shared} {us : List Value} (I : Inv X pins σ H s) : Inv X pins σ (upd H (s.heap.objs.size + 1) (ExO true (s.heap.objs.size + 1) C none))
    { s with heap := (s.heap.push { cls := .type "tuple", data := .seq us.toArray }).push (excObj C none #[.ref s.heap.objs.size, .none, .none, .none, .bool false, .none]) } := by
  have hget : ((s.heap.push { cls := .type "tuple", data := .seq us.toArray }).push (excObj C none #[.ref s.heap.objs.size, .none, .none, .none, .bool false, .none])).get? (s.heap.objs.size + 1) = some (excObj C none #[.ref s.heap.objs.size, .none, .none, .none, .bool false, .none]) := by heap_get
  exact I.laid (a := s.heap.objs.size + 1) (t' := s.toks) (fun b u q => Heap.get?_push_of_some _ (Heap.get?_push_of_some _ q)) (Nat.le_succ _) (exO_ok hget (fun _ => rfl))
theorem run_makeX {pins : List (Addr × Obj)} {σ : St} {H : Hp} {s : Shared} {Q : VK} {us : List Value} {vs : List V} (c : ExC X.K C) (hi : findIn X.K (.ref C) "__init__" = some (some (.ref f))) (hf : isFn X.K (.ref f) = true)
    (F : FnOk X.prog X.w X.K X.mg X.base CX k f fd ps sp) (hr : Room (k + 1) X.A) (hb : Binds X.K fd ps ds) (hd : Vals dvs ds) (hx : Passes CX X E) (I : Inv X pins σ H s) (r : Vals vs us) (hps : ps.length ≤ 1000)
    (h : ∀ x, H x = none → sp (.ref x :: (vs ++ dvs)) (upd H x (ExO true x C none)) (fun v H2 => v = .non ∧ Q (.ref x) H2) E) :
    wpAny (model X.prog X.w) X.A (call (.ref C) us) (EP X pins σ Q) X.xe s := by
  have hq := h (s.heap.objs.size + 1) (I.hok.fresh (Nat.le_succ _))
  have I2 := Inv.madeX (C := C) (us := us) I
  have r2 : Vals (V.ref (s.heap.objs.size + 1) :: (vs ++ dvs)) (Value.ref (s.heap.objs.size + 1) :: (us ++ ds)) := .cons rfl (r.append hd)
  have hl : (Value.ref (s.heap.objs.size + 1) :: us ++ ds).length = ps.length := by
    have e := r2.length
    rw [F.len _ _ _ _ hq] at e
    exact e.symm
  have hus : us.length ≤ sizeLine := by
    have : us.length ≤ ps.length := by rw [← hl, List.length_append, List.length_cons]; omega
    exact Nat.le_trans this (Nat.le_trans hps (by decide))
  obtain ⟨nm, q, N, bs, bm, hdct, sn, sub, ab, col, dd, k0, k1, k2, k3, k5, hc, T⟩ := c
  refine wpAny_call (exc_make PySem.F.excBase_ValueError (T _ I.kIn) (I.kIn _ _ hc) (looks_findIn I.kIn hi) (fun self => bind_fn I.kIn self (beq_iff_eq.mp hf)) hus
    (codeAny_mono (F.run _ X.stack _ _ ⟨Value.ref (s.heap.objs.size + 1) :: us, []⟩ (Value.ref (s.heap.objs.size + 1) :: (us ++ ds)) _ _ E (hr.make C us [])
    (I2.env0.make C us []) (hb _ (Value.ref (s.heap.objs.size + 1) :: us) I2.kIn hl) r2 hq) fun r s' hq' => ?_))
  cases r with
  | error e => exact hx pins σ _ _ e s' I2 hq'
  | ok fl =>
    cases fl with
    | ret u =>
      obtain ⟨v, H', I3, rv, ev, q3⟩ := I2.after hq'
      subst ev
      exact ⟨rv, ⟨V.ref (s.heap.objs.size + 1), H', I3, rfl, q3⟩⟩
    | next => exact False.elim hq'
    | brk => exact False.elim hq'
    | cont => exact False.elim hq'
theorem pe_makeX (c : ExC X.K C) (hi : findIn X.K (.ref C) "__init__" = some (some (.ref f))) (hf : isFn X.K (.ref f) = true) (hkp : keepIn X.K (.ref C) = true)
    (F : FnOk X.prog X.w X.K X.mg X.base CX k f fd ps sp) (hr : Room (k + 1) X.A) (hg : Gl X x) (hm : X.mg x = some (.ref C)) (hb : Binds X.K fd ps ds) (hd : Vals dvs ds) (hx : Passes CX X E) (hps : ps.length ≤ 1000)
    (ha : PA X (e :: es) t) (hdb : (x == ("__debug__" : Str)) = false := by decide) (he : starEach (e :: es) X.env = (false, eval e X.env) :: starEach es X.env := by rfl) (hpl : (backTo pos (starEach es X.env)).any (·.1) = false := by rfl) :
    PE X (.Call (.Name x p) (e :: es) [] pos) (tMakeX C sp dvs E t) := by
  intro pins s σ H Q I h
  refine wpAny_Call_Name_kw (ld_glob I hg hm ?_ hdb)
  refine PySem.W.callWith_K (h₀ := X.base) I.ok.mod.kin hkp (thn (ha pos pins s σ H _ I h) fun us s1 ⟨vs, H1, I1, r, q⟩ => ⟨I1.kIn, ?_⟩) he hpl
  exact run_makeX c hi hf F hr hb hd hx I1 r hps q
end
end L2

set_option maxHeartbeats 4000000
namespace L2
open PySem PySem.Spec PyProof.Rows PySem.W
noncomputable def strKeysB (es : Array DictEntry) : Bool := es.toList.all fun e => match e.key with | .str _ _ => true | _ => false
theorem strKeys_of {es : Array DictEntry} (e : strKeysB es = true) : StrKeys es := by
  intro d hd
  have := List.all_eq_true.mp e d (Array.mem_toList_iff.mpr hd)
  split at this
  · rename_i x t q; exact ⟨x, t, q⟩
  · cases this
theorem ns_of {K : Frag} {N : Addr} {oN : Value} {dN : Option Addr} {es : Array DictEntry} {nn : Nat} {sl : Array (Option Value)} {h : Heap} (X : K.In h) (l : K.lookup N = some ⟨oN, dN, .dict es nn, sl⟩) (e : strKeysB es = true) : h.Ns N (nsFind es) :=
  ⟨_, es, nn, X _ _ l, rfl, strKeys_of e, fun _ => rfl⟩
section
variable {K : Frag} {C D N HE M : Addr} {nm q nm' q' : Str} {bs bs' bm bm' : List Value} {sn sn' : List Str} {sub sub' : List Value} {ab ab' hdct hdct' : Bool} {col col' : Option Bool} {dd dd' : Option Addr} {k0 k1 k2 k3 k5 j0 j1 j2 j3 j5 : Option Value} {oN : Value} {dN : Option Addr} {es : Array DictEntry} {nn : Nat} {sl : Array (Option Value)} {i i' : String}
theorem exC_he (l : K.lookup HE = some (excClassObj nm q HE N bs veMro hdct sn sub ab col dd k0 k1 k2 k3 k5 "ValueError.__new__")) : ExC K HE :=
  ⟨_, _, _, _, _, _, _, _, _, _, _, _, _, _, _, _, l, fun h X => .base⟩
theorem exC_sub (l : K.lookup HE = some (excClassObj nm q HE N bs veMro hdct sn sub ab col dd k0 k1 k2 k3 k5 i)) (n : K.lookup N = some ⟨oN, dN, .dict es nn, sl⟩) (e : strKeysB es = true) (hi : nsFind es "__init__" = none)
    (l' : K.lookup C = some (excClassObj nm' q' C M bs' (.ref HE :: veMro) hdct' sn' sub' ab' col' dd' j0 j1 j2 j3 j5 "ValueError.__new__")) : ExC K C :=
  ⟨_, _, _, _, _, _, _, _, _, _, _, _, _, _, _, _, l', fun h X => .own (X _ _ l) (ns_of X n e) hi .base⟩
theorem clsIn_of (l : K.lookup C = some (excClassObj nm q C N bs bm hdct sn sub ab col dd k0 k1 k2 k3 k5 i)) : ∃ cd, clsIn K C = some cd ∧ cd.mro = .ref C :: bm ∧ cd.hasDict = hdct := ⟨_, by unfold clsIn; rw [l], rfl, rfl⟩
theorem mro_of {b : Value} (l : K.lookup C = some (excClassObj nm q C N bs bm hdct sn sub ab col dd k0 k1 k2 k3 k5 i)) : mroIn K C b = some ((Value.ref C :: bm).contains b) := by
  obtain ⟨cd, h1, h2, _⟩ := clsIn_of l
  unfold mroIn
  rw [h1, Option.bind_some, h2, if_neg (by simp)]
theorem kit_ref (l : K.lookup C = some (excClassObj nm q C N bs bm hdct sn sub ab col dd k0 k1 k2 k3 k5 i)) (l' : K.lookup D = some (excClassObj nm' q' D M bs' bm' hdct' sn' sub' ab' col' dd' j0 j1 j2 j3 j5 i')) :
    kitOne K (.ref C) (.ref D) = some ((Value.ref C :: bm).contains (.ref D)) := by
  unfold kitOne
  by_cases e : (Value.ref C == Value.ref D) = true
  · rw [if_pos e, eq_of_beq e]; simp
  · rw [if_neg e]
    obtain ⟨cd, h1, _⟩ := clsIn_of l'
    have h2 : typeIn K (.ref D) = some (.type "type") := by show (K.lookup D).map (·.cls) = _; rw [l']; rfl
    show (if ((clsIn K D).isSome && typeIn K (.ref D) == some (.type "type")) = true then mroIn K C (.ref D) else none) = _
    rw [h1, h2, if_pos (by simp), mro_of l]
theorem kit_ve {n : String} (hn : kitMeta n = true) (l : K.lookup C = some (excClassObj nm q C N bs bm hdct sn sub ab col dd k0 k1 k2 k3 k5 i)) : kitOne K (.ref C) (.type n) = some ((Value.ref C :: bm).contains (.type n)) := by
  unfold kitOne
  rw [if_neg (by intro z; cases eq_of_beq z)]
  show (if kitMeta n = true then mroIn K C (.type n) else none) = _
  rw [if_pos hn, mro_of l]
theorem clsX_of (l : K.lookup C = some (excClassObj nm q C N bs bm true sn sub ab col dd k0 k1 k2 k3 k5 i)) (hb : onlyVE bm = true) (hbe : bm.contains (.type "BaseException") = true)
    (ga : findIn K (.ref C) "__getattribute__" = some (some (.builtin "BaseException.__getattribute__"))) (nga : findIn K (.ref C) "__getattr__" = some none)
    (sa : findIn K (.ref C) "__setattr__" = some (some (.builtin "object.__setattr__"))) (cl : findIn K (.ref C) "__class__" = some (some (.builtin "object.__class__")))
    (cg : specialIn K (.builtin "object.__class__") "__get__" = some (some (.builtin "getset_descriptor.__get__"))) (ct : takesIn K (.builtin "object.__class__") = some true) : ClsX K C := by
  obtain ⟨cd, h1, h2, h3⟩ := clsIn_of l
  refine ⟨ga, ?_, nga, ?_, ?_, ?_, sa, cl, cg, ct⟩
  · rw [mro_of l, List.contains_cons, hbe, Bool.or_true]
  · rw [mro_of l, List.contains_cons, onlyVE_has hb, Bool.or_true]
  · unfold hasDictIn; rw [h1]; exact h3
  · unfold overVE; rw [h1]; show onlyVE cd.mro = true; rw [h2, onlyVE_ref]; exact hb
end
end L2
namespace L2
open PySem PySem.Spec PyProof.Rows PySem.W
structure XIn (K : Frag) (C : Addr) (qual : Str) (st : Stmt) (ps : List Str) (f : Addr) (fd : FuncData) : Prop where
  F : Fun K "__init__" qual st f fd
  b : Binds K fd ps []
  i : findIn K (.ref C) "__init__" = some (some (.ref f))
  fn : isFn K (.ref f) = true
  kp : keepIn K (.ref C) = true
  sm : ps.length ≤ 1000
theorem boot_ValueError : bootBuiltins "ValueError" = some (.type "ValueError") := by decide +kernel
theorem txtI {i : Int} (h : i.natAbs.log2 < 1920) : (Str.ofString (toString i)).length ≤ 5000 := by
  have e := int_text_length_le (k := 1920) (by decide) h
  rw [PySem.ofString_length]; omega
section
variable {X : Cx} {k : Nat} {f C : Addr} {fd : FuncData} {ps : List Str} {sp : Sp} {x qual : Str} {st : Stmt} {p pos pos' : Pos} {e o value : Expr} {es : List Expr} {t : TA} {ta tv : TE} {g : Str}
theorem xmake (A : XIn X.K C qual st ps f fd) (G : FnOk X.prog X.w X.K X.mg X.base CX0 k f fd ps sp) (hr : Room (k + 1) X.A) (hm : X.mg x = some (.ref C)) (c : ExC X.K C) (ha : PA X (e :: es) t) (hg : Gl X x := by rfl)
    (hdb : (x == ("__debug__" : Str)) = false := by decide) (he : starEach (e :: es) X.env = (false, eval e X.env) :: starEach es X.env := by rfl) (hpl : (backTo pos (starEach es X.env)).any (·.1) = false := by rfl) :
    PE X (.Call (.Name x p) (e :: es) [] pos) (tMakeX C sp [] E0 t) := pe_makeX c A.i A.fn A.kp G hr hg hm A.b .nil pass0 A.sm ha hdb he hpl
theorem pgl_ref {y : Addr} (h : X.mg x = some (.ref y)) (hg : Gl X x := by rfl) (hd : (x == ("__debug__" : Str)) = false := by decide) : PE X (.Name x pos) (tC (.ref y)) := pe_glob hg h rfl hd
theorem qs_xfld0 (ha : PE X o ta) (hv : PE X value tv) (hs : swapsWith value (some (.Attribute o g pos')) pos.line X.env = pure false := by rfl) : QS X (.Assign [.Attribute o g pos'] value pos) (sXFld0 X.K ta tv g) := ⟨ps_xfld0 ha hv hs⟩
end
structure Fam (K : Frag) (C : Nat → Addr) : Prop where
  x : ∀ i, i ≤ 13 → ClsX K (C i)
  c : ∀ i, i ≤ 13 → ExC K (C i)
  k : ∀ i j, i ≤ 13 → j ≤ 13 → kitOne K (.ref (C i)) (.ref (C j)) = some (decide (i = j) || decide (j = 13))
  v : ∀ i, i ≤ 13 → kitOne K (.ref (C i)) (.type "ValueError") = some true
noncomputable def IsX (fl : Bool) (C : Nat → Addr) (H : Hp) (a : Addr) (i : Nat) (fs : List (Str × V)) : Prop := ∃ dx, H a = some (ExO fl a (C i) dx) ∧ ((dx = none ∧ fs = []) ∨ ∃ p, dx = some p ∧ H p = some (XdO p fs))
theorem IsX.same {fl : Bool} {C : Nat → Addr} {H H' : Hp} {a : Addr} {i : Nat} {fs : List (Str × V)} (x : IsX fl C H a i fs) (s : Same H H') : IsX fl C H' a i fs := by
  obtain ⟨dx, h1, h2⟩ := x
  exact ⟨dx, s _ _ h1, h2.imp id fun ⟨p, e, h3⟩ => ⟨p, e, s _ _ h3⟩⟩
theorem IsX.inst {K : Frag} {fl : Bool} {C : Nat → Addr} {H : Hp} {a : Addr} {i j : Nat} {fs : List (Str × V)} {Q : VK} (x : IsX fl C H a i fs) (F : Fam K C) (hi : i ≤ 13) (hj : j ≤ 13) (q : Q (.bl (decide (i = j) || decide (j = 13))) H) : rInstX K [.ref a, .ref (C j)] H Q := by
  obtain ⟨dx, h1, h2⟩ := x
  refine ⟨fl, a, _, dx, _, _, _, rfl, rfl, h1, fun p e => ?_, F.x i hi, F.k i j hi hj, q⟩
  rcases h2 with ⟨z, _⟩ | ⟨p', e', h3⟩
  · rw [z] at e; cases e
  · rw [e'] at e; cases e; exact ⟨_, h3⟩
end L2

set_option maxHeartbeats 4000000
namespace L2
open PySem PySem.Spec PyProof.Rows PySem.W
theorem IsX.dict {fl : Bool} {C : Nat → Addr} {H : Hp} {a : Addr} {i : Nat} {fs : List (Str × V)} (x : IsX fl C H a i fs) : ∃ dx, H a = some (ExO fl a (C i) dx) ∧ ∀ p, dx = some p → ∃ fs, H p = some (XdO p fs) := by
  obtain ⟨dx, h1, h2⟩ := x
  refine ⟨dx, h1, fun p e => ?_⟩
  rcases h2 with ⟨z, _⟩ | ⟨p', e', h3⟩
  · rw [z] at e; cases e
  · rw [e'] at e; cases e; exact ⟨_, h3⟩
end L2

set_option maxHeartbeats 4000000
namespace L2
open PySem PySem.Spec PyProof.Rows PySem.W
noncomputable def ClAt (K : Frag) (C : Addr) (bm : List Value) : Prop := ∃ nm q N bs sn sub ab col dd k0 k1 k2 k3 k5, K.lookup C = some (excClassObj nm q C N bs bm true sn sub ab col dd k0 k1 k2 k3 k5 "ValueError.__new__")
theorem ve_ref (a : Addr) : veMro.contains (.ref a) = false := rfl
end L2

set_option maxHeartbeats 4000000
namespace L2
open PySem PySem.Spec PyProof.Rows PySem.W
structure Noted (fr : List Addr) (e : Addr) (old : Option Addr) (h h' : Heap) : Prop where
  keep : ∀ b o, h.get? b = some o → b ≠ e → some b ≠ old → b ∉ fr → h'.get? b = some o
  slot : ∀ b o, h.get? b = some o → b ≠ e → some b ≠ old → ∃ sl, h'.get? b = some { o with slots := sl }
  there : ∀ b o, h.get? b = some o → ∃ o', h'.get? b = some o'
  size : h.objs.size ≤ h'.objs.size
noncomputable def TbAt (h : Heap) (T : Addr) : Prop := ∃ oT ts, h.get? T = some oT ∧ oT.data = .fields ts ∧ ts[3]? = some .none
theorem setF {o : Obj} {vs : Array Value} (hd : o.data = .fields vs) (f : Array Value → Array Value) : Obj.mapFields f o = { o with data := .fields (f vs) } := by
  obtain ⟨c, d, dt, sl⟩ := o
  cases (show dt = .fields vs from hd)
  rfl
theorem unfreed {o : Obj} {vs : Array Value} (hd : o.data = .fields vs) : o.isFreed = false := Obj.isFreed_of_fields hd
section
variable {M : Model} {A : Around} {E : Value → Shared → Prop} {s : Shared} {base : Heap} {env : Env} {outer : List Env} {L e : Addr} {oe : Obj} {vs : Array Value} {Q : Unit → Shared → Prop}
theorem note_go {head : Value} {nx : Bool} (hfr : A.frames = some (env :: outer)) (hl : s.heap.FunFrames base (env :: outer)) (hf : env.frame = some L) (he : s.heap.get? e = some oe) (hd : oe.data = .fields vs) (hsz : 1 < vs.size)
    (h : ∀ h' T, Noted (frs (env :: outer)) e none s.heap h' → h'.get? e = some { oe with data := .fields (vs.setIfInBounds 1 (.ref T)) } → s.heap.objs.size ≤ T → TbAt h' T → Q () { s with heap := h' }) :
    wpAny M A (do
      let a ← frameOf env
      let pl ← entryPlaceOf L nx
      let b ← EntryCells.newEntry head a .none (rawInt L) .none pl
      setField (.ref e) 1 b) (fun _ s' => wpAny M A (setFlight (.ref e) none) Q E s') E s := by
  have en : e ∉ frs (env :: outer) := fun hm => by
    obtain ⟨_, o, ho, hn⟩ := hl.mem hm
    rw [he] at ho; cases ho; exact hn vs hd
  have elt : e < s.heap.objs.size := Heap.lt_size he
  refine wpAny_bind (wpAny_frameOf_fun hfr hl hf fun g1 G1 => ?_)
  refine wpAny_bind (wpAny_entryPlaceOf fun pl hpl => ?_)
  unfold EntryCells.newEntry newFields
  refine wpAny_bind (wpAny_newObj_type ?_ (hpl.sizeOk5 _ _ _ _ _))
  have e1 : g1.get? e = some oe := (G1.2.1 e en).trans he
  have z1 : g1.objs.size = s.heap.objs.size := G1.1
  have hts : (([head, .ref L, .none, rawInt L, .none] ++ (if pl.isEmpty then List.replicate 6 Value.none else pl)).toArray : Array Value).size > 3 := by
    simp only [List.size_toArray, List.length_append, List.length_cons, List.length_nil]
    omega
  generalize (([head, .ref L, .none, rawInt L, .none] ++ (if pl.isEmpty then List.replicate 6 Value.none else pl)).toArray : Array Value) = tv at hts
  have t2 := Heap.get?_push_size g1 (o := { cls := .type "traceback", dict := none, data := .fields tv }) rfl
  have k2 : ∀ b o, g1.get? b = some o → (g1.push { cls := .type "traceback", dict := none, data := .fields tv }).get? b = some o := fun b o q => Heap.get?_push_of_some _ q
  have z2 : (g1.push { cls := .type "traceback", dict := none, data := .fields tv }).objs.size = g1.objs.size + 1 := Heap.size_push _ _
  generalize g1.push { cls := .type "traceback", dict := none, data := .fields tv } = g2 at t2 k2 z2
  have Tne : g1.objs.size ≠ e := Nat.ne_of_gt (by rw [z1]; exact elt)
  refine wpAny_setField (k2 _ _ e1) hd hsz ?_
  have e3 := Heap.get?_update_self (h := g2) (Obj.mapFields (·.setIfInBounds 1 (Value.ref g1.objs.size))) (k2 _ _ e1) (by rw [setF hd]; exact unfreed rfl)
  rw [setF hd] at e3
  have o3 : ∀ b, b ≠ e → (g2.update e (Obj.mapFields (·.setIfInBounds 1 (Value.ref g1.objs.size)))).get? b = g2.get? b := fun b hb => Heap.get?_update_other _ _ (Ne.symm hb)
  have z3 : (g2.update e (Obj.mapFields (·.setIfInBounds 1 (Value.ref g1.objs.size)))).objs.size = g2.objs.size := by cases g2; simp [Heap.update]
  generalize g2.update e (Obj.mapFields (·.setIfInBounds 1 (Value.ref g1.objs.size))) = g3 at e3 o3 z3
  unfold setFlight
  refine wpAny_bind (wpAny_field e3 rfl (x := .ref g1.objs.size) (by simp [hsz]) ?_)
  rw [if_pos (show (Value.ref g1.objs.size != Value.none) = true from by simp)]
  have t3 := (o3 _ Tne).trans t2
  refine wpAny_setField t3 rfl hts ?_
  have t4 := Heap.get?_update_self (h := g3) (Obj.mapFields (·.setIfInBounds 3 ((none : Option Addr).elim Value.none fun f => rawInt f))) t3 (unfreed rfl)
  have o4 : ∀ b, b ≠ g1.objs.size → (g3.update g1.objs.size (Obj.mapFields (·.setIfInBounds 3 ((none : Option Addr).elim Value.none fun f => rawInt f)))).get? b = g3.get? b := fun b hb => Heap.get?_update_other _ _ (Ne.symm hb)
  have z4 : (g3.update g1.objs.size (Obj.mapFields (·.setIfInBounds 3 ((none : Option Addr).elim Value.none fun f => rawInt f)))).objs.size = g3.objs.size := by cases g3; simp [Heap.update]
  generalize g3.update g1.objs.size (Obj.mapFields (·.setIfInBounds 3 ((none : Option Addr).elim Value.none fun f => rawInt f))) = g4 at t4 o4 z4
  have all : ∀ b o, b ≠ e → g1.get? b = some o → g4.get? b = some o := fun b o hb q => by
    rw [o4 b (Nat.ne_of_lt (Heap.lt_size q)), o3 b hb]; exact k2 b o q
  have e4 : g4.get? e = some { oe with data := .fields (vs.setIfInBounds 1 (.ref g1.objs.size)) } := (o4 e (Ne.symm Tne)).trans e3
  refine h g4 g1.objs.size ⟨fun b o q hb _ hn => all b o hb ((G1.2.1 b hn).trans q), fun b o q hb _ => ?_, fun b o q => ?_, by omega⟩ e4 (by omega) ⟨_, _, t4, rfl, by simp [hts]⟩
  · obtain ⟨sl, q1⟩ := G1.2.2 b o q
    exact ⟨sl, all b _ hb q1⟩
  · by_cases hb : b = e
    · subst hb; exact ⟨_, e4⟩
    · obtain ⟨sl, q1⟩ := G1.2.2 b o q
      exact ⟨_, all b _ hb q1⟩
theorem note_first (hfr : A.frames = some (env :: outer)) (hl : s.heap.FunFrames base (env :: outer)) (hf : env.frame = some L) (he : s.heap.get? e = some oe) (hd : oe.data = .fields vs) (h1 : vs[1]? = some .none)
    (h : ∀ h' T, Noted (frs (env :: outer)) e none s.heap h' → h'.get? e = some { oe with data := .fields (vs.setIfInBounds 1 (.ref T)) } → s.heap.objs.size ≤ T → TbAt h' T → Q () { s with heap := h' }) :
    wpAny M A (noteFrame (.ref e) env) (fun _ s' => wpAny M A (setFlight (.ref e) none) Q E s') E s := by
  unfold noteFrame
  simp only [hf]
  refine wpAny_bind (wpAny_field he hd h1 ?_)
  rw [if_neg (by decide)]
  exact note_go hfr hl hf he hd (Array.getElem?_eq_some_iff.mp h1).1 h
theorem note_next {T0 : Addr} (hfr : A.frames = some (env :: outer)) (hl : s.heap.FunFrames base (env :: outer)) (hf : env.frame = some L) (he : s.heap.get? e = some oe) (hd : oe.data = .fields vs) (h1 : vs[1]? = some (.ref T0)) (hT : TbAt s.heap T0) (hne : T0 ≠ e)
    (h : ∀ h' T, Noted (frs (env :: outer)) e (some T0) s.heap h' → h'.get? e = some { oe with data := .fields (vs.setIfInBounds 1 (.ref T)) } → s.heap.objs.size ≤ T → TbAt h' T → Q () { s with heap := h' }) :
    wpAny M A (noteFrame (.ref e) env) (fun _ s' => wpAny M A (setFlight (.ref e) none) Q E s') E s := by
  obtain ⟨oT, ts, hT, hdT, h3⟩ := hT
  unfold noteFrame
  simp only [hf]
  refine wpAny_bind (wpAny_field he hd h1 ?_)
  rw [if_pos (show (Value.ref T0 != Value.none) = true from by simp)]
  refine wpAny_bind (wpAny_field hT hdT h3 ?_)
  rw [if_neg (show ¬ ((Value.none == rawInt L) = true) from by simp [rawInt])]
  refine wpAny_bind (wpAny_setField hT hdT (Array.getElem?_eq_some_iff.mp h3).1 ?_)
  have Tf : T0 ∉ frs (env :: outer) := fun hm => by
    obtain ⟨_, o, ho, hn⟩ := hl.mem hm
    rw [hT] at ho; cases ho; exact hn ts hdT
  have t1 := Heap.get?_update_self (h := s.heap) (Obj.mapFields (·.setIfInBounds 3 Value.none)) hT (by rw [setF hdT]; exact unfreed rfl)
  have o1 : ∀ b, b ≠ T0 → (s.heap.update T0 (Obj.mapFields (·.setIfInBounds 3 Value.none))).get? b = s.heap.get? b := fun b hb => Heap.get?_update_other _ _ (Ne.symm hb)
  have z1 : (s.heap.update T0 (Obj.mapFields (·.setIfInBounds 3 Value.none))).objs.size = s.heap.objs.size := by cases s.heap; simp [Heap.update]
  generalize s.heap.update T0 (Obj.mapFields (·.setIfInBounds 3 Value.none)) = g at t1 o1 z1
  refine note_go (s := { s with heap := g }) hfr (hl.of_keeps fun b o q hn => ⟨o, (o1 b fun z => ?_).trans q, rfl⟩) hf ((o1 e (Ne.symm hne)).trans he) hd (Array.getElem?_eq_some_iff.mp h1).1 fun h' T N x hz tb => h h' T ⟨fun b o q hb hT0 hn => ?_, fun b o q hb hT0 => ?_, fun b o q => ?_, Nat.le_trans (Nat.le_of_eq z1.symm) N.size⟩ x (Nat.le_trans (Nat.le_of_eq z1.symm) hz) tb
  · subst z; rw [hT] at q; cases q; exact hn ts hdT
  · exact N.keep b o ((o1 b fun z => hT0 (by rw [z])).trans q) hb (by simp) hn
  · exact N.slot b o ((o1 b fun z => hT0 (by rw [z])).trans q) hb (by simp)
  · by_cases z : b = T0
    · subst z; exact N.there _ _ t1
    · exact N.there _ _ ((o1 b z).trans q)
end
end L2

set_option maxHeartbeats 4000000
namespace L2
open PySem PySem.Spec PyProof.Rows PySem.W
theorem noted_ok {P : Program} {w : World} {H : Hp} {h h' : Heap} {fr : List Addr} {x C : Addr} {dx old : Option Addr} (ok : HOk P w H h) (N : Noted fr x old h h') (hx : H x = some (ExO false x C dx))
    (hx' : ∃ t0 a1 a2 a3 a4 a5, h'.get? x = some (excObj C dx #[.ref t0, a1, a2, a3, a4, a5])) (hfr : ∀ b ∈ fr, H b = none) (hold : ∀ T, old = some T → H T = none) : HOk P w H h' := fun a o e => by
  by_cases ha : a = x
  · subst ha
    rw [hx] at e
    cases e
    obtain ⟨t0, a1, a2, a3, a4, a5, q⟩ := hx'
    exact exO_ok q (fun z => by cases z)
  · refine (ok a o e).stay (fun b u hb q => ?_) (fun _ q => q) fun _ _ q => q
    have hbn : ∃ v, H b = some v := by
      rcases hb with rfl | hb
      · exact ⟨_, e⟩
      · exact ⟨_, hb⟩
    obtain ⟨v, hv⟩ := hbn
    refine N.keep b u q (fun z => ?_) (fun z => ?_) (fun z => ?_)
    · subst z
      rcases hb with z | hb
      · exact ha z.symm
      · rw [hx] at hb; cases hb
    · have := hold b z.symm
      rw [hv] at this; cases this
    · have := hfr b z
      rw [hv] at this; cases this
theorem noted_un {fs fr : List Addr} {H0 H1 : Hp} {h0 h1 h2 : Heap} {x : Addr} {old : Option Addr} {o : HO} (u : Un fs [] H0 H1 h0 h1) (N : Noted fr x old h1 h2) (hx : H1 x = some o)
    (hT : ∀ T, old = some T → h0.objs.size ≤ T) (hfr : ∀ b ∈ fr, b ∈ fs ∨ h0.objs.size ≤ b) : Un fs [] H0 H1 h0 h2 where
  keep := fun b ob q n hb he => by
    refine N.keep b ob (u.keep b ob q n hb he) (fun z => ?_) (fun z => ?_) (fun z => ?_)
    · have := u.free b ob q n he
      rw [z, hx] at this; cases this
    · exact absurd (Heap.lt_size q) (Nat.not_lt.mpr (hT b z.symm))
    · rcases hfr b z with k | k
      · exact hb k
      · exact absurd (Heap.lt_size q) (Nat.not_lt.mpr k)
  slot := fun b ob q n hb he => by
    obtain ⟨sl, q1⟩ := u.slot b ob q n hb he
    obtain ⟨sl2, q2⟩ := N.slot b _ q1 (fun z => by have := u.free b ob q n he; rw [z, hx] at this; cases this) (fun z => absurd (Heap.lt_size q) (Nat.not_lt.mpr (hT b z.symm)))
    exact ⟨sl2, q2⟩
  free := u.free
  there := fun b ob q he => by
    obtain ⟨o', q1⟩ := u.there b ob q he
    exact N.there b o' q1
  tups := u.tups
  frzs := u.frzs
  tbls := u.tbls
noncomputable def Fly (h : Heap) (x : Addr) (v : Value) : Prop := ∃ oe vs, h.get? x = some oe ∧ oe.data = .fields vs ∧ vs[1]? = some v
noncomputable def CX1 (P : Program) (w : World) : CXT := fun outer H s E e s' => ∃ x C dx T H', e = .ref x ∧ s'.os = s.os ∧ AllBare s'.gens ∧ Un (frs outer) [] H H' s.heap s'.heap ∧ HOk P w H' s'.heap ∧ H' x = some (ExO false x C dx) ∧
  Fly s'.heap x (.ref T) ∧ TbAt s'.heap T ∧ H' T = none ∧ s.heap.objs.size ≤ T ∧ E e none H'
section
variable {X : Cx} {pins : List (Addr × Obj)} {σ : St} {H H1 : Hp} {s s1 : Shared} {x C : Addr} {dx : Option Addr}
structure Rz (X : Cx) (pins : List (Addr × Obj)) (σ : St) (H1 : Hp) (s1 : Shared) (H : Hp) (x C : Addr) (dx : Option Addr) (T : Addr) (s : Shared) : Prop where
  pre : Inv X pins σ H1 s1
  os : s.os = s1.os
  bare : AllBare s.gens
  un : Un (frs X.stack) [] H1 H s1.heap s.heap
  hok : HOk X.prog X.w H s.heap
  at_ : H x = some (ExO false x C dx)
  fly : Fly s.heap x (.ref T)
  tb : TbAt s.heap T
  off : H T = none
  new : s1.heap.objs.size ≤ T
theorem Rz.inv {T : Addr} (r : Rz X pins σ H1 s1 H x C dx T s) : Inv X pins σ H s := r.pre.call' r.os r.un r.hok r.bare (fun b z => absurd z (by simp))
theorem set1 {C : Addr} {dx : Option Addr} {t0 T : Addr} {a1 a2 a3 a4 a5 : Value} : ({ excObj C dx #[.ref t0, a1, a2, a3, a4, a5] with data := .fields ((#[.ref t0, a1, a2, a3, a4, a5] : Array Value).setIfInBounds 1 (.ref T)) } : Obj) = excObj C dx #[.ref t0, .ref T, a2, a3, a4, a5] := rfl
theorem rz_of {old : Option Addr} {T : Addr} {h' : Heap} {t0 : Addr} {a2 a3 a4 a5 : Value} (hst : X.stack = X.env :: X.outer) (I : Inv X pins σ H1 s1) (os : s.os = s1.os) (bare : AllBare s.gens) (u : Un (frs X.stack) [] H1 H s1.heap s.heap) (hok : HOk X.prog X.w H s.heap) (hx : H x = some (ExO false x C dx)) (N : Noted (frs (X.env :: X.outer)) x old s.heap h')
    (ex : h'.get? x = some (excObj C dx #[.ref t0, .ref T, a2, a3, a4, a5])) (hT : s.heap.objs.size ≤ T) (hs : s1.heap.objs.size ≤ s.heap.objs.size) (tb : TbAt h' T) (hold : ∀ T0, old = some T0 → H T0 = none ∧ s1.heap.objs.size ≤ T0) : Rz X pins σ H1 s1 H x C dx T { s with heap := h' } where
  pre := I
  os := os
  bare := bare
  un := noted_un u N hx (fun T0 e => (hold T0 e).2) fun b hb => .inl (by rw [hst]; exact hb)
  hok := by
    have fr : ∀ b ∈ frs (X.env :: X.outer), H b = none := fun b hb => by
      have hb : b ∈ frs X.stack := by rw [hst]; exact hb
      obtain ⟨_, o, ho, _⟩ := I.stack.mem hb
      exact u.free b o ho (I.stkFree b hb) (by simp)
    exact noted_ok hok N hx ⟨_, _, _, _, _, _, ex⟩ fr fun T0 e => (hold T0 e).1
  at_ := hx
  fly := ⟨_, _, ex, rfl, rfl⟩
  tb := tb
  off := hok.fresh hT
  new := Nat.le_trans hs hT
theorem fly_eq {h : Heap} {t0 : Addr} {a1 a2 a3 a4 a5 v : Value} (e : h.get? x = some (excObj C dx #[.ref t0, a1, a2, a3, a4, a5])) (hf : Fly h x v) : (#[.ref t0, a1, a2, a3, a4, a5] : Array Value)[1]? = some v := by
  obtain ⟨oe, vs, e2, hd, h1⟩ := hf
  rw [e] at e2
  cases e2
  cases (show Data.fields #[.ref t0, a1, a2, a3, a4, a5] = .fields vs from hd)
  exact h1
theorem note_at {M : Model} {A : Around} {E : Value → Shared → Prop} {Q : Unit → Shared → Prop} (hA : A.frames = some X.stack) (hst : X.stack = X.env :: X.outer) (hfm : X.env.frame = some X.env.locals) (I : Inv X pins σ H1 s1) (os : s.os = s1.os) (bare : AllBare s.gens) (u : Un (frs X.stack) [] H1 H s1.heap s.heap) (hok : HOk X.prog X.w H s.heap)
    (hs : s1.heap.objs.size ≤ s.heap.objs.size) (hx : H x = some (ExO false x C dx)) (hf : Fly s.heap x .none ∨ ∃ T0, Fly s.heap x (.ref T0) ∧ TbAt s.heap T0 ∧ H T0 = none ∧ s1.heap.objs.size ≤ T0)
    (q : ∀ T s', Rz X pins σ H1 s1 H x C dx T s' → Q () s') : wpAny M A (noteFrame (.ref x) X.env) (fun _ s' => wpAny M A (setFlight (.ref x) none) Q E s') E s := by
  obtain ⟨t0, a1, a2, a3, a4, a5, e, _⟩ := exO_get hok hx
  have fun2 : s.heap.FunFrames X.base (X.env :: X.outer) := by
    have f := (I.call' os u hok bare (fun b z => absurd z (by simp))).stack
    rwa [hst] at f
  rcases hf with hf | ⟨T0, hf, hT0, hn, hz⟩
  · refine note_first (hA.trans (congrArg some hst)) fun2 hfm e rfl (fly_eq e hf) fun h' T N ex hT tb => q T _ ?_
    exact rz_of hst I os bare u hok hx N (ex.trans (congrArg some set1)) hT hs tb fun T0 z => by cases z
  · refine note_next (hA.trans (congrArg some hst)) fun2 hfm e rfl (fly_eq e hf) hT0 (ne_of_none hx hn).symm fun h' T N ex hT tb => q T _ ?_
    exact rz_of hst I os bare u hok hx N (ex.trans (congrArg some set1)) hT hs tb fun T1 z => by cases z; exact ⟨hn, hz⟩
theorem Rz.flight {M : Model} {A : Around} {E : Value → Shared → Prop} {Q : Unit → Shared → Prop} {T : Addr} (r : Rz X pins σ H1 s1 H x C dx T s) (q : ∀ s', Rz X pins σ H1 s1 H x C dx T s' → Q () s') : wpAny M A (setFlight (.ref x) none) Q E s := by
  obtain ⟨oe, vs, e, hd, h1⟩ := id r.fly
  obtain ⟨oT, ts, hT, hdT, h3⟩ := id r.tb
  have hne : x ≠ T := ne_of_none r.at_ r.off
  refine wpAny_setFlight_none e hd h1 hT hdT (Array.getElem?_eq_some_iff.mp h3).1 (q _ ?_)
  have t1 := Heap.get?_update_self (h := s.heap) (Obj.mapFields (·.setIfInBounds 3 Value.none)) hT (by rw [setF hdT]; exact unfreed rfl)
  have o1 : ∀ b, b ≠ T → (s.heap.update T (Obj.mapFields (·.setIfInBounds 3 Value.none))).get? b = s.heap.get? b := fun b hb => Heap.get?_update_other _ _ (Ne.symm hb)
  rw [setF hdT] at t1
  have hs3 := (Array.getElem?_eq_some_iff.mp h3).1
  generalize s.heap.update T (Obj.mapFields (·.setIfInBounds 3 Value.none)) = g at t1 o1
  have nt : ∀ b o, s1.heap.get? b = some o → b ≠ T := fun b o z => Nat.ne_of_lt (Nat.lt_of_lt_of_le (Heap.lt_size z) r.new)
  refine ⟨r.pre, r.os, r.bare, ⟨fun b o z n hb he => (o1 b (nt b o z)).trans (r.un.keep b o z n hb he), fun b o z n hb he => ?_, r.un.free, fun b o z he => ?_, r.un.tups, r.un.frzs, r.un.tbls⟩, fun a o z => ?_, r.at_, ⟨oe, vs, (o1 x hne).trans e, hd, h1⟩, ⟨_, _, t1, rfl, by simp [hs3]⟩, r.off, r.new⟩
  · obtain ⟨sl, w⟩ := r.un.slot b o z n hb he
    exact ⟨sl, (o1 b (nt b o z)).trans w⟩
  · obtain ⟨o', w⟩ := r.un.there b o z he
    exact ⟨o', (o1 b (nt b o z)).trans w⟩
  · refine (r.hok a o z).stay (fun b u hb w => ?_) (fun _ w => w) fun _ _ w => w
    refine (o1 b fun k => ?_).trans w
    subst k
    rcases hb with rfl | hb
    · have := r.off; rw [z] at this; cases this
    · have := r.off; rw [hb] at this; cases this
end
section
variable {P : Program} {w : World} {K : PySem.W.Frag} {mg : Str → Option Value} {base : Heap} {N : List Str} {qual : Str} {scope : Scope} {f : Addr} {cd : Value} {A : Around} {outer : List Env} {s : Shared} {H : Hp} {E E1 : XK}
theorem leave1 {pins : List (Addr × Obj)} {σ : St} {H1 : Hp} {s1 : Shared} {x C : Addr} {dx : Option Addr} (I : Inv (cxOf (CX1 P w) P w K mg base N qual scope f cd A outer s H E) pins σ H1 s1) (hx : H1 x = some (ExO false x C dx)) (hf : Fly s1.heap x .none) (q : E (.ref x) none H1) :
    (cxOf (CX1 P w) P w K mg base N qual scope f cd A outer s H E).xe (.ref x) s1 := by
  show wpAny _ _ (leaving _ _) _ _ _
  unfold leaving
  refine wpAny_bind (note_at (X := cxOf (CX1 P w) P w K mg base N qual scope f cd A outer s H E) I.ok.frames rfl rfl I rfl I.bare Un.refl I.hok (Nat.le_refl _) hx (.inl hf) fun T s' r => ?_)
  exact ⟨x, C, dx, T, H1, rfl, r.inv.os, r.bare, r.inv.base, r.hok, hx, r.fly, r.tb, r.off, Nat.le_trans I.sz r.new, q⟩
theorem pass1 (hE : ∀ e H', E1 e none H' → E e none H') : Passes (CX1 P w) (cxOf (CX1 P w) P w K mg base N qual scope f cd A outer s H E) E1 := fun pins σ H1 s1 e s' I h => by
  obtain ⟨x, C, dx, T, H', rfl, os, bare, un, hok, hx, fl, tb, hn, hz, q⟩ := h
  show wpAny _ _ (leaving _ _) _ _ _
  unfold leaving
  have hs : s1.heap.objs.size ≤ s'.heap.objs.size := Nat.le_trans hz (Nat.le_of_lt (by obtain ⟨_, _, e, _⟩ := tb; exact Heap.lt_size e))
  refine wpAny_bind (note_at (X := cxOf (CX1 P w) P w K mg base N qual scope f cd A outer s H E) I.ok.frames rfl rfl I os bare un hok hs hx (.inr ⟨T, fl, tb, hn, hz⟩) fun T2 s2 r => ?_)
  exact ⟨x, C, dx, T2, H', rfl, r.inv.os, r.bare, r.inv.base, r.hok, hx, r.fly, r.tb, r.off, Nat.le_trans I.sz r.new, hE _ _ q⟩
end
end L2

set_option maxHeartbeats 4000000
namespace L2
open PySem PySem.Spec PyProof.Rows PySem.W
structure Wish (X : Cx) (W : St → XK) : Prop where
  made : ∀ {pins : List (Addr × Obj)} {σ : St} {H : Hp} {s : Shared} {x C : Addr} {dx : Option Addr}, Inv X pins σ H s → H x = some (ExO false x C dx) → Fly s.heap x .none → W σ (.ref x) none H → X.xe (.ref x) s
  came : ∀ {pins : List (Addr × Obj)} {σ : St} {H : Hp} {s s' : Shared} {e : Value}, Inv X pins σ H s → CX1 X.prog X.w X.stack H s (W σ) e s' → X.xe e s'
theorem wish_def {P : Program} {w : World} {K : PySem.W.Frag} {mg : Str → Option Value} {base : Heap} {N : List Str} {qual : Str} {scope : Scope} {f : Addr} {cd : Value} {A : Around} {outer : List Env} {s : Shared} {H : Hp} {E : XK} :
    Wish (cxOf (CX1 P w) P w K mg base N qual scope f cd A outer s H E) (fun _ => E) :=
  ⟨fun I hx hf q => leave1 I hx hf q, fun {pins σ H1 s1 s' e} I h => pass1 (fun _ _ q => q) pins σ H1 s1 e s' I h⟩
section
variable {X : Cx} {W : St → XK} {k : Nat} {f C : Addr} {fd : FuncData} {ps : List Str} {sp : Sp} {x : Str} {st : Stmt} {p pos rpos : Pos} {e : Expr} {es : List Expr} {t : TA}
noncomputable def tCallX (sp : Sp) (W : St → XK) (t : TA) : TE := fun σ H Q => t σ H fun vs H1 => sp vs H1 Q (W σ)
theorem run_fnX {pins : List (Addr × Obj)} {σ : St} {H : Hp} {s : Shared} {Q : VK} {us : List Value} {vs : List V} (hw : Wish X W) (F : FnOk X.prog X.w X.K X.mg X.base (CX1 X.prog X.w) k f fd ps sp) (hr : Room k X.A) (hb : Binds X.K fd ps [])
    (I : Inv X pins σ H s) (r : Vals vs us) (h : sp vs H Q (W σ)) : wpAny (model X.prog X.w) X.A (call (.ref f) us) (EP X pins σ Q) X.xe s := by
  have hl : (us ++ []).length = ps.length := by rw [List.append_nil, ← r.length]; exact F.len _ _ _ _ h
  refine wpAny_call (codeAny_mono (F.run X.A X.stack s H ⟨us, []⟩ (us ++ []) vs Q (W σ) hr I.env0 (hb s us I.kIn hl) (by rw [List.append_nil]; exact r) h) fun r s' hq => ?_)
  cases r with
  | error e => exact hw.came I hq
  | ok fl =>
    cases fl with
    | ret u => exact I.after hq
    | next => exact False.elim hq
    | brk => exact False.elim hq
    | cont => exact False.elim hq
theorem pcallX (A : FnAt X.K X.mg x st ps f fd) (F : FnOk X.prog X.w X.K X.mg X.base (CX1 X.prog X.w) k f fd ps sp) (hr : Room k X.A) (hw : Wish X W) (ha : PA X (e :: es) t) (hg : Gl X x := by rfl) (hdb : (x == ("__debug__" : Str)) = false := by decide) (he : starEach (e :: es) X.env = (false, eval e X.env) :: starEach es X.env := by rfl) (hpl : (backTo pos (starEach es X.env)).any (·.1) = false := by rfl) :
    PE X (.Call (.Name x p) (e :: es) [] pos) (tCallX sp W t) := by
  intro pins s σ H Q I h
  refine wpAny_Call_Name_kw (ld_glob I hg A.m ?_ hdb)
  refine PySem.W.callWith_K (h₀ := X.base) I.ok.mod.kin A.F.kp (thn (ha pos pins s σ H _ I h) fun us s1 ⟨vs, H1, I1, r, q⟩ => ⟨I1.kIn, ?_⟩) he hpl
  exact run_fnX hw F hr A.b I1 r q
end
section
variable {P : Program} {w : World} {K : PySem.W.Frag} {mg : Str → Option Value} {base : Heap}
theorem Fun.okX {x qual : Str} {st : Stmt} {f : Addr} {fd : FuncData} {N ps : List Str} {k : Nat} {sp : Sp} (F : Fun K x qual st f fd) (S : FnScope N ps (defScope st)) (len : ∀ vs H Q E, sp vs H Q E → vs.length = ps.length)
    (hbody : ∀ (cdv : Value) (A : Around) (outer : List Env) (s : Shared) (H : Hp) (vs : List V) (Q : VK) (E : XK), Room k (A.deeper (envOfC qual (defScope st) s.heap.objs.size f cdv)) → sp vs H Q E →
      ∃ t, PSs (cxOf (CX1 P w) P w K mg base N qual (defScope st) f cdv A outer s H E) (defBody st) t ∧ t { nx := fun _ H' => Q .non H', rt := Q } (start N vs) H) : FnOk P w K mg base (CX1 P w) (k + 1) f fd ps sp := by
  obtain ⟨oc, od, kV, doc, pm, an, cdv, ct, osl, rfl, lk, hcd⟩ := F.ex
  exact fn_of lk hcd S len fun A outer s H vs Q E hr h => hbody cdv A outer s H vs Q E hr h
end
end L2

set_option maxHeartbeats 4000000
namespace L2
open PySem PySem.Spec PyProof.Rows PySem.W
section
variable {M : Model} {A : Around} {E : Value → Shared → Prop} {s : Shared} {env : Env}
theorem raise_own {x : Sem Value} {Q : Flow → Shared → Prop} (hh : A.handled = none)
    (h : wpAny M A x (fun v s1 => ∃ e C dx vs, ∃ nm q N bs bm hdct sn sub ab col dd k0 k1 k2 k3 k5 nid, v = .ref e ∧ s1.heap.get? C = some (excClassObj nm q C N bs bm hdct sn sub ab col dd k0 k1 k2 k3 k5 nid) ∧ bm.contains (.type "BaseException") = true ∧ s1.heap.get? e = some (excObj C dx vs) ∧ vs[1]? = some .none ∧ E (.ref e) s1) E s) :
    wpAny M A (raiseStmt env (some x) none) Q E s := by
  unfold raiseStmt
  refine wpAny_bind (thn h fun v s1 hz => ?_)
  obtain ⟨e, C, dx, vs, nm, q, N, bs, bm, hdct, sn, sub, ab, col, dd, k0, k1, k2, k3, k5, nid, rfl, hC, hb, he, h1, hE⟩ := hz
  obtain ⟨hp, g, d, t, os⟩ := s1
  refine wpAny_bind (wpAny_pure ?_)
  have nt : ∀ {Q2 : Bool → Shared → Prop}, Q2 false ⟨hp, g, d, t, os⟩ → wpAny M A (isType (.ref e)) Q2 E ⟨hp, g, d, t, os⟩ := fun {Q2} h2 => by
    unfold isType loadHead
    exact wpAny_bind (wpAny_loadPart he (wpAny_pure h2))
  refine wpAny_bind (wpAny_holding ?_)
  unfold excFromValue isExcClass isInstance
  refine wpAny_bind (wpAny_bind (nt ?_))
  rw [if_neg (by decide)]
  refine wpAny_pure ?_
  rw [if_neg (by decide)]
  refine wpAny_bind (wpAny_bind (wpAny_typeOf_ref he (wpAny_isSubtype_exc hC ?_)))
  rw [List.contains_cons, hb, Bool.or_true, if_pos rfl]
  refine wpAny_pure ?_
  dsimp only
  refine wpAny_bind (nt ?_)
  rw [if_neg (by decide)]
  unfold raisedInstance
  refine wpAny_bind (wpAny_bind (wpAny_typeOf_ref he (wpAny_bind (wpAny_typeOf_ref hC ?_))))
  rw [if_pos (show ((excClassObj nm q C N bs bm hdct sn sub ab col dd k0 k1 k2 k3 k5 nid).cls == Value.type "type") = true from by rfl)]
  refine wpAny_pure ?_
  unfold setFlight
  refine wpAny_bind (wpAny_bind (wpAny_field he rfl h1 ?_))
  rw [if_neg (by decide)]
  exact wpAny_pure (wpAny_raiseNew_none hh hE)
end
theorem tail_base {h : Heap} {bm : List Value} (T : OwnTail h veMro bm) : bm.contains (.type "BaseException") = true := by
  induction T with
  | base => rfl
  | own _ _ _ _ ih => rw [List.contains_cons, ih, Bool.or_true]
section
variable {X : Cx} {W : St → XK} {pos : Pos} {e : Expr} {te : TE}
theorem Inv.flown {pins : List (Addr × Obj)} {σ : St} {H : Hp} {s : Shared} {x C : Addr} {dx : Option Addr} {fl : Bool} (I : Inv X pins σ H s) (hx : H x = some (ExO fl x C dx)) : Inv X pins σ (upd H x (ExO false x C dx)) s := by
  obtain ⟨t0, a1, a2, a3, a4, a5, e, _⟩ := exO_get I.hok hx
  exact I.write (x := x) (e := x) (o := ExO false x C dx) (t' := s.toks) (h' := s.heap) (by rw [hx]; exact True.intro) (.inl rfl) (fun b o hb q => q) ⟨_, e⟩ (exO_ok e (fun z => by cases z))
noncomputable def tRaise (K : Frag) (W : St → XK) (te : TE) : TS := fun _ σ H => te σ H fun v H1 => ∃ x C dx, v = .ref x ∧ H1 x = some (ExO true x C dx) ∧ ExC K C ∧ W σ (.ref x) none (upd H1 x (ExO false x C dx))
theorem qs_raise (hw : Wish X W) (hc : X.calm = true) (he : PE X e te) : QS X (.Raise (some e) none pos) (tRaise X.K W te) := ⟨by
  intro pins s σ H D I h
  rw [arm_exec_Raise]
  refine wpAny_bind (wpAny_standAt ?_)
  refine raise_own (x := do let v ← eval e X.env; standAt pos; pure v) (I.ok.hd hc) (wpAny_bind (thn (he pins s σ H _ I h) fun u s1 hz => ?_))
  obtain ⟨vv, H1, I1, r, x, C, dx, rfl, hx, c, q⟩ := hz
  obtain rfl : u = Value.ref x := r
  obtain ⟨nm, q', N, bs, bm, hdct, sn, sub, ab, col, dd, k0, k1, k2, k3, k5, hcl, hT⟩ := c
  obtain ⟨t0, a1, a2, a3, a4, a5, e1, hn⟩ := exO_get I1.hok hx
  have h1 : (#[.ref t0, a1, a2, a3, a4, a5] : Array Value)[1]? = some .none := by rw [hn rfl]; rfl
  refine wpAny_bind (wpAny_standAt (wpAny_pure ⟨x, C, dx, _, nm, q', N, bs, bm, hdct, sn, sub, ab, col, dd, k0, k1, k2, k3, k5, _, rfl, I1.kIn _ _ hcl, tail_base (hT _ I1.kIn), e1, h1, ?_⟩))
  exact hw.made (I1.flown hx) upd_same ⟨_, _, e1, rfl, h1⟩ q⟩
end
end L2

set_option maxHeartbeats 4000000
namespace L2
open PySem PySem.Spec PyProof.Rows PySem.W
theorem sub_tt : isSubtype (.type "type") (.type "tuple") = pure false := by kernel_rfl
section
variable {M : Model} {A : Around} {E : Value → Shared → Prop} {s : Shared}
theorem exc_match {x C D : Addr} {oe : Obj} {nm q nm' q' : Str} {N N' : Addr} {bs bm bs' bm' : List Value} {hdct hdct' : Bool} {sn sn' : List Str} {sub sub' : List Value} {ab ab' : Bool} {col col' : Option Bool} {dd dd' : Option Addr} {k0 k1 k2 k3 k5 k0' k1' k2' k3' k5' : Option Value} {nid nid' : String} {Q : Bool → Shared → Prop}
    (hC : s.heap.get? C = some (excClassObj nm q C N bs bm hdct sn sub ab col dd k0 k1 k2 k3 k5 nid)) (hD : s.heap.get? D = some (excClassObj nm' q' D N' bs' bm' hdct' sn' sub' ab' col' dd' k0' k1' k2' k3' k5' nid'))
    (he : s.heap.get? x = some oe) (hc : oe.cls = .ref C) (hb : bm'.contains (.type "BaseException") = true) (h : Q ((Value.ref C :: bm).contains (.ref D)) s) : wpAny M A (excMatches (.ref x) (.ref D)) Q E s := by
  obtain ⟨hh, g, d, t, os⟩ := s
  unfold excMatches isInstance
  refine wpAny_bind (wpAny_bind (wpAny_typeOf_ref hD ?_))
  show wpAny M A (isSubtype (.type "type") (.type "tuple")) _ E _
  rw [sub_tt]
  refine wpAny_pure ?_
  rw [if_neg (by decide)]
  refine wpAny_bind (wpAny_pure ?_)
  have exc : ∀ {Q2 : Bool → Shared → Prop}, Q2 true ⟨hh, g, d, t, os⟩ → wpAny M A (isExcClass (.ref D)) Q2 E ⟨hh, g, d, t, os⟩ := fun {Q2} h2 => by
    unfold isExcClass isType loadHead
    refine wpAny_bind (wpAny_bind (wpAny_loadPart hD (wpAny_pure ?_)))
    rw [if_pos rfl]
    refine wpAny_isSubtype_exc hD ?_
    rw [List.contains_cons, hb, Bool.or_true]
    exact h2
  dsimp only
  rw [List.forIn_cons]
  refine wpAny_bind (wpAny_bind (wpAny_bind (exc ?_)))
  rw [if_neg (by decide)]
  refine wpAny_pure ?_
  dsimp only
  rw [List.forIn_nil]
  refine wpAny_pure ?_
  refine wpAny_bind (wpAny_typeOf_ref he ?_)
  rw [hc, List.forIn_cons]
  refine wpAny_bind (wpAny_bind (wpAny_bind (wpAny_isSubtype_exc hC ?_)))
  by_cases k : (Value.ref C :: bm).contains (.ref D) = true
  · rw [if_pos k]
    rw [k] at h
    exact wpAny_pure (wpAny_pure (wpAny_pure h))
  · have k2 : (Value.ref C :: bm).contains (.ref D) = false := by simpa using k
    rw [if_neg k]
    rw [k2] at h
    refine wpAny_pure ?_
    dsimp only
    rw [List.forIn_nil]
    exact wpAny_pure (wpAny_pure h)
end
end L2

set_option maxHeartbeats 4000000
namespace L2
open PySem PySem.Spec PyProof.Rows PySem.W
section
variable {X : Cx} {pins : List (Addr × Obj)} {σ : St} {H : Hp} {s : Shared}
theorem del_ok {M : Model} {A : Around} {E : Value → Shared → Prop} {i : Nat} {x : Str} {v : V} {Q : Unit → Shared → Prop} (I : Inv X pins σ H s) (hN : X.N.Nodup) (hi : X.N[i]? = some x) (hk : X.env.scope.names.lookup x = some .local) (hσ : σ[i]? = some (some v))
    (h : ∀ s', Inv X pins (σ.set i none) H s' → Q () s') : wpAny M A (unbindName X.env x) Q E s := by
  obtain ⟨m, hn, hl⟩ := id I.loc
  have hcls : (X.env.scope.kind == .class || (X.env.scope.kind == .module && X.env.locals != X.env.globals)) = false := by rw [I.ok.kind]; rfl
  have hiσ : i < σ.length := by rw [I.len]; exact (List.getElem?_eq_some_iff.mp hi).1
  have cne := I.cne
  obtain ⟨u, _, hu⟩ := hl i x v hi hσ (.inl hk)
  have hm : m x = some u := by
    rcases hu with ⟨_, z⟩ | ⟨z, _⟩
    · exact z
    · have hk2 : X.env.kindOf x = some .local := hk
      rw [hk2] at z
      rcases z with z | z <;> cases z
  obtain ⟨oL, _, _, hoL, _⟩ := id hn
  refine wpAny_unbindName_local hk hn hm hcls (fun h' w hn' hs => ?_)
  refine h _ ⟨I.ok, I.os, I.bare, ⟨fun b o e n hb hx => ?_, fun b o e n hb hx => ?_, I.base.free, fun b o e hx => ?_, I.base.tups, I.base.frzs, I.base.tbls⟩, ⟨_, hn', fun j y v' e1 e2 e3 => ?_⟩, fun y c e => ?_, I.free, I.freeC, fun p hp => ?_, fun b ob e => ?_, by simpa using I.len⟩
  · exact (hs.2 b (Nat.ne_of_lt (Nat.lt_of_lt_of_le (Heap.lt_size e) I.ok.above))).trans (I.base.keep b o e n hb hx)
  · obtain ⟨sl, e1⟩ := I.base.slot b o e n hb hx
    exact ⟨sl, (hs.2 b (Nat.ne_of_lt (Nat.lt_of_lt_of_le (Heap.lt_size e) I.ok.above))).trans e1⟩
  · obtain ⟨o', e1⟩ := I.base.there b o e hx
    exact ⟨o', (hs.2 b (Nat.ne_of_lt (Nat.lt_of_lt_of_le (Heap.lt_size e) I.ok.above))).trans e1⟩
  · by_cases hj : j = i
    · subst hj
      rw [List.getElem?_set_self hiσ] at e2
      cases e2
    · rw [List.getElem?_set_ne (Ne.symm hj)] at e2
      obtain ⟨u', r', q⟩ := hl j y v' e1 e2 e3
      refine ⟨u', r', ?_⟩
      rcases q with ⟨k, e⟩ | ⟨k, c, e, z⟩
      · refine .inl ⟨k, ?_⟩
        have : y ≠ x := fun e => hj (nodup_ix hN e1 (e ▸ hi))
        simp [this, e]
      · exact .inr ⟨k, c, e, z.sameBut hs (cne y c e)⟩
  · obtain ⟨w', z⟩ := I.cell y c e
    exact ⟨w', z.sameBut hs (cne y c e)⟩
  · obtain ⟨e, n, ne, nf, d⟩ := I.pin p hp
    exact ⟨(hs.2 p.1 ne).trans e, n, ne, nf, d⟩
  · refine (I.hok b ob e).stay (fun c w' hc q => (hs.2 c ?_).trans q) (fun _ q => q) fun _ _ q => q
    rintro rfl
    rcases hc with rfl | hc
    · rw [I.free] at e; cases e
    · rw [I.free] at hc; cases hc
theorem gone_ok {M : Model} {A : Around} {E : Value → Shared → Prop} {i : Nat} {x : Str} {pos : Pos} {Q : Unit → Shared → Prop} (I : Inv X pins σ H s) (hN : X.N.Nodup) (hi : X.N[i]? = some x) (hk : X.env.scope.names.lookup x = some .local)
    (h : ∀ s', Inv X pins (σ.set i none) H s' → Q () s') : wpAny M A (do bindName X.env x Value.none; unbindBehindTheSuite X.env x pos) Q E s := by
  have hiσ : i < σ.length := by rw [I.len]; exact (List.getElem?_eq_some_iff.mp hi).1
  refine wpAny_bind (wpAny_bindName (store_ok I hN hi (.inl hk) (v := V.non) rfl (fun s' I' => ?_) (.inr hk)))
  unfold unbindBehindTheSuite
  refine wpAny_onRaise (del_ok I' hN hi hk (List.getElem?_set_self hiσ) fun s2 I2 => ?_)
  rw [List.set_set] at I2
  exact h s2 I2
end
noncomputable abbrev Cx.tryc (X : Cx) (pins : List (Addr × Obj)) (E : Value → Shared → Prop) : Cx := { X with xe := E, pn := X.pn ++ pins }
noncomputable abbrev Cx.hand (X : Cx) (x : Addr) (pins : List (Addr × Obj)) (E : Value → Shared → Prop) : Cx := { X with A := X.A.mark (some (.ref x)), calm := false, xe := E, pn := X.pn ++ pins }
section
variable {X : Cx} {pins pins' : List (Addr × Obj)} {σ : St} {H : Hp} {s : Shared} {E : Value → Shared → Prop} {x : Addr}
theorem Inv.tryc (I : Inv X pins σ H s) : Inv (X.tryc pins E) [] σ H s :=
  ⟨⟨I.ok.mod, I.ok.kind, I.ok.glob, I.ok.blt, I.ok.above, I.ok.inj, I.ok.has, I.ok.cab, I.ok.hd, I.ok.frames, I.ok.stk, I.ok.exf, I.ok.bs, I.ok.bsz, I.ok.noex, I.ok.exfs, I.ok.funs, I.ok.frf⟩, I.os, I.bare, I.base, I.loc, I.cell, I.free, I.freeC, fun p hp => I.pin p (by simpa using hp), I.hok, I.len⟩
theorem Inv.untry (I : Inv (X.tryc pins E) pins' σ H s) : Inv X pins σ H s :=
  ⟨⟨I.ok.mod, I.ok.kind, I.ok.glob, I.ok.blt, I.ok.above, I.ok.inj, I.ok.has, I.ok.cab, I.ok.hd, I.ok.frames, I.ok.stk, I.ok.exf, I.ok.bs, I.ok.bsz, I.ok.noex, I.ok.exfs, I.ok.funs, I.ok.frf⟩, I.os, I.bare, I.base, I.loc, I.cell, I.free, I.freeC, fun p hp => I.pin p (List.mem_append_left _ hp), I.hok, I.len⟩
theorem Inv.hand (I : Inv X pins σ H s) : Inv (X.hand x pins E) [] σ H s :=
  ⟨⟨I.ok.mod, I.ok.kind, I.ok.glob, I.ok.blt, I.ok.above, I.ok.inj, I.ok.has, I.ok.cab, (fun z => by cases z), I.ok.frames, I.ok.stk, I.ok.exf, I.ok.bs, I.ok.bsz, I.ok.noex, I.ok.exfs, I.ok.funs, I.ok.frf⟩, I.os, I.bare, I.base, I.loc, I.cell, I.free, I.freeC, fun p hp => I.pin p (by simpa using hp), I.hok, I.len⟩
theorem Inv.unhand (ok : X.Ok) (I : Inv (X.hand x pins E) pins' σ H s) : Inv X pins σ H s :=
  ⟨ok, I.os, I.bare, I.base, I.loc, I.cell, I.free, I.freeC, fun p hp => I.pin p (List.mem_append_left _ hp), I.hok, I.len⟩
end
end L2

set_option maxHeartbeats 4000000
namespace L2
open PySem PySem.Spec PyProof.Rows PySem.W
noncomputable def Sub (K : Frag) (C D : Addr) : Prop := ∃ nm q N bs bm hdct sn sub ab col dd k0 k1 k2 k3 k5 nid, K.lookup C = some (excClassObj nm q C N bs bm hdct sn sub ab col dd k0 k1 k2 k3 k5 nid) ∧ (Value.ref C :: bm).contains (.ref D) = true
noncomputable def Ends.off (En : Ends) (i : Nat) : Ends := { nx := fun σ H => En.nx (σ.set i none) H, rt := En.rt, bk := fun σ H => En.bk (σ.set i none) H, ct := fun σ H => En.ct (σ.set i none) H }
section
variable {X : Cx} {pins : List (Addr × Obj)} {σ : St} {H0 H1 : Hp} {s0 s2 : Shared} {x C D T : Addr} {dx : Option Addr} {cx n : Str} {i : Nat} {np hpos pos : Pos} {b₀ : Stmt} {suite body orelse : List Stmt} {rest : List ExceptHandler} {ts to : TS} {En : Ends} {E : Value → Shared → Prop}
theorem Rz.as {C2 : Addr} {dx2 : Option Addr} (r : Rz X pins σ H0 s0 H1 x C dx T s2) (h : H1 x = some (ExO false x C2 dx2)) : Rz X pins σ H0 s0 H1 x C2 dx2 T s2 := ⟨r.pre, r.os, r.bare, r.un, r.hok, h, r.fly, r.tb, r.off, r.new⟩
theorem hand_as (r : Rz X pins σ H0 s0 H1 x C dx T s2) (sub : Sub X.K C D) (exD : ExC X.K D) (hg : Gl X cx) (hm : X.mg cx = some (.ref D)) (hdb : (cx == ("__debug__" : Str)) = false) (hN : X.N.Nodup) (hi : X.N[i]? = some n) (hk : X.env.scope.names.lookup n = some .local)
    (hs : QSs (X.hand x pins fun _ _ => False) (b₀ :: suite) ts) (q : ts (En.off i) (σ.set i (some (.ref x))) H1) :
    wpAny (model X.prog X.w) X.A (handleBy (.ref x) X.env (.ExceptHandler (some (.Name cx np)) (some n) (b₀ :: suite) hpos :: rest)) (SP X pins En) E s2 := by
  have Ih := r.inv.hand (x := x) (E := fun _ _ => False)
  refine wpAny_handleBy_cons (codeAny_handlers_test (ld_glob Ih hg hm ?_ hdb)) (by intro z; cases z)
  obtain ⟨nm, q', N, bs, bm, hdct, sn, sb, ab, col, dd, k0, k1, k2, k3, k5, hcl, hT⟩ := exD
  obtain ⟨nm2, q2, N2, bs2, bm2, hdct2, sn2, sb2, ab2, col2, dd2, j0, j1, j2, j3, j5, nid, hcl2, hcon⟩ := sub
  obtain ⟨t0, a1, a2, a3, a4, a5, e, _⟩ := exO_get r.hok r.at_
  refine exc_match (r.inv.kIn _ _ hcl2) (r.inv.kIn _ _ hcl) e rfl (tail_base (hT _ r.inv.kIn)) ?_
  rw [hcon]
  show codeAny _ _ (Code.handlers _ [ExceptHandler.ExceptHandler none (some n) (b₀ :: suite) hpos] _) _ _
  refine codeAny_handlers_suite_as (r.flight fun s3 r3 => ?_)
  refine store_ok (X := X.hand x pins fun _ _ => False) (pins := []) r3.inv.hand hN hi (.inl hk) (v := V.ref x) rfl (fun s4 I4 => ?_) (.inr hk)
  refine wpAny_mono (hs.h [] s4 _ _ _ I4 q) (fun f s5 q5 => ?_) (fun e s5 z => z.elim)
  cases f with
  | next => obtain ⟨σ', H', I', q'⟩ := q5; exact gone_ok (I'.unhand r.inv.ok) hN hi hk fun s6 I6 => ⟨_, _, I6, q'⟩
  | brk => obtain ⟨σ', H', I', q'⟩ := q5; exact gone_ok (I'.unhand r.inv.ok) hN hi hk fun s6 I6 => ⟨_, _, I6, q'⟩
  | cont => obtain ⟨σ', H', I', q'⟩ := q5; exact gone_ok (I'.unhand r.inv.ok) hN hi hk fun s6 I6 => ⟨_, _, I6, q'⟩
  | ret u => obtain ⟨v, σ', H', I', rv, q'⟩ := q5; exact gone_ok (I'.unhand r.inv.ok) hN hi hk fun s6 I6 => ⟨v, _, _, I6, rv, q'⟩
noncomputable abbrev caughtBy (X : Cx) (pins : List (Addr × Obj)) (hs : List ExceptHandler) (En : Ends) : Value → Shared → Prop := fun e s1 => wpAny (model X.prog X.w) X.A (noteFrame e X.env) (fun _ s2 => wpAny (model X.prog X.w) X.A (setFlight e none) (fun _ s3 => wpAny (model X.prog X.w) X.A (handleBy e X.env hs) (SP X pins En) X.xe s3) X.xe s2) X.xe s1
theorem wish_try {hs : List ExceptHandler} {W : St → XK} (hst : X.stack = X.env :: X.outer) (hfm : X.env.frame = some X.env.locals)
    (h : ∀ {σ : St} {H0 H1 : Hp} {s0 s2 : Shared} {x C T : Addr} {dx : Option Addr}, Rz X pins σ H0 s0 H1 x C dx T s2 → W σ (.ref x) none H1 → wpAny (model X.prog X.w) X.A (handleBy (.ref x) X.env hs) (SP X pins En) X.xe s2) : Wish (X.tryc pins (caughtBy X pins hs En)) W where
  made := fun {pins' σ H s x C dx} I hx hf q => note_at (X := X) I.ok.frames hst hfm I.untry rfl I.bare Un.refl I.hok (Nat.le_refl _) hx (.inl hf) fun T s' r => h r q
  came := fun {pins' σ H s s' e} I z => by
    obtain ⟨x, C, dx, T, H', rfl, os, bare, un, hok, hx, fl, tb, hn, hz, q⟩ := z
    have hs : s.heap.objs.size ≤ s'.heap.objs.size := Nat.le_trans hz (Nat.le_of_lt (by obtain ⟨_, _, e, _⟩ := tb; exact Heap.lt_size e))
    exact note_at (X := X) I.ok.frames hst hfm I.untry os bare un hok hs hx (.inr ⟨T, fl, tb, hn, hz⟩) fun T2 s2 r => h r q
noncomputable def tTryAs (K : Frag) (D : Addr) (i : Nat) (tb : (St → XK) → TS) (to ts : TS) : TS := fun En σ H =>
  tb (fun σ1 e _ H1 => ∃ x C dx, e = .ref x ∧ H1 x = some (ExO false x C dx) ∧ Sub K C D ∧ ts (En.off i) (σ1.set i (some (.ref x))) H1) { En with nx := fun σ2 H2 => to En σ2 H2 } σ H
theorem try_go {hs : List ExceptHandler} {h₀ : ExceptHandler} {W : St → XK} {tb : (St → XK) → TS} {s : Shared} {H : Hp} (hw : Wish (X.tryc pins (caughtBy X pins (h₀ :: hs) En)) W) (hb : QSs (X.tryc pins (caughtBy X pins (h₀ :: hs) En)) body (tb W)) (ho : QSs X orelse to) (I : Inv X pins σ H s)
    (h : tb W { En with nx := fun σ2 H2 => to En σ2 H2 } σ H) : wpAny (model X.prog X.w) X.A (exec (.Try body (h₀ :: hs) orelse [] pos) X.env) (SP X pins En) X.xe s := by
  refine wpAny_Try_except (wpAny_mono (hb.h [] s σ H _ I.tryc h) (fun f s1 q => ?_) (fun e s1 q => q))
  cases f with
  | next => obtain ⟨σ', H', I', q'⟩ := q; exact ho.h pins s1 σ' H' En I'.untry q'
  | brk => obtain ⟨σ', H', I', q'⟩ := q; exact ⟨_, _, I'.untry, q'⟩
  | cont => obtain ⟨σ', H', I', q'⟩ := q; exact ⟨_, _, I'.untry, q'⟩
  | ret u => obtain ⟨v, σ', H', I', rv, q'⟩ := q; exact ⟨v, _, _, I'.untry, rv, q'⟩
theorem qs_tryAs {tb : (St → XK) → TS} (exD : ExC X.K D) (hm : X.mg cx = some (.ref D)) (hN : X.N.Nodup) (hi : X.N[i]? = some n) (hk : X.env.scope.names.lookup n = some .local) (hst : X.stack = X.env :: X.outer) (hfm : X.env.frame = some X.env.locals)
    (hb : ∀ pins E W, Wish (X.tryc pins E) W → QSs (X.tryc pins E) body (tb W)) (ho : QSs X orelse to) (hs : ∀ x pins, QSs (X.hand x pins fun _ _ => False) (b₀ :: suite) ts) (hg : Gl X cx := by rfl) (hdb : (cx == ("__debug__" : Str)) = false := by decide) :
    QS X (.Try body [.ExceptHandler (some (.Name cx np)) (some n) (b₀ :: suite) hpos] orelse [] pos) (tTryAs X.K D i tb to ts) := ⟨by
  intro pins s σ H En I h
  refine try_go (tb := tb) (wish_try hst hfm fun {σ1 H0 H1 s0 s2 x C T dx} r q => ?_) (hb pins _ _ (wish_try hst hfm fun {σ1 H0 H1 s0 s2 x C T dx} r q => ?_)) ho I h
  all_goals
    obtain ⟨x2, C2, dx2, ex, hx2, sub, q2⟩ := q
    cases ex
    exact hand_as (r.as hx2) sub exD hg hm hdb hN hi hk (hs x pins) q2⟩
end
end L2

set_option maxHeartbeats 4000000
namespace L2
open PySem PySem.Spec PyProof.Rows PySem.W
section
variable {X : Cx} {W : St → XK} {k : Nat} {f C : Addr} {fd : FuncData} {ps : List Str} {sp : Sp} {m : Str} {p pos apos : Pos} {e o : Expr} {es : List Expr} {ta : TE} {t : TA}
theorem mt_count : MtR X "str.count" (fun x vs H Q => ∃ z y, x = .str z ∧ vs = [.str y] ∧ Q (.int (Txt.count z y)) H) := by
  intro pins s σ H x vs v us Q I rx rv h
  obtain ⟨z, y, rfl, rfl, q⟩ := h
  obtain ⟨t, rfl⟩ := rx
  obtain ⟨u, rfl, t2, rfl⟩ := vals1 rv
  exact SC.count ⟨.int _, H, I.tok _, ⟨_, rfl⟩, q⟩
theorem op_inK {K : Frag} (h : X.K = K) : OpR X (compareOp .In) (rIn K false) := by subst h; exact op_in_seq
theorem pe_fldK {K : Frag} {m : Str} (h : X.K = K) (he : PE X e ta) (hb : attributeBase e m X.env (eval e X.env) = eval e X.env) : PE X (.Attribute e m pos) (tFld K ta m) := by subst h; exact pe_fld he hb
theorem strsA_of : ∀ {ys : List Str} {us : List Value}, Vals (ys.map V.str) us → StrsAre us ys
  | [], _, h => by cases h; exact .nil
  | y :: ys, _, h => by
    cases h with
    | cons r t =>
      obtain ⟨tk, rfl⟩ := r
      exact .cons y tk (strsA_of t)
theorem of_strsA : ∀ {ys : List Str} {us : List Value}, StrsAre us ys → Vals (ys.map V.str) us
  | _, _, .nil => .nil
  | _, _, .cons y t h => .cons ⟨t, rfl⟩ (of_strsA h)
theorem call_sortedS : CallR X (.builtin "sorted") (fun xs H Q => ∃ p ys, xs = [.ref p] ∧ SqL X.K H p (ys.map V.str) ∧ ys.length < 64 ∧ ∀ l ys', ys'.Perm ys → sortedS ys' = true → H l = none → Q (.ref l) (upd H l (.lst (ys'.map V.str)))) := by
  intro pins s σ H xs us Q I r h
  obtain ⟨p, ys, rfl, hl, hn, q⟩ := h
  obtain ⟨u, rfl, ru⟩ := vals1 r
  obtain rfl : u = Value.ref p := ru
  obtain ⟨its, hv, hp, _⟩ := I.list hl
  have hlen : its.length = ys.length := by have := hv.length; rw [List.length_map] at this; exact this.symm
  refine sorted_strs hp.isList (strsA_of hv) (by omega) fun out ss' h1 h2 h3 => ?_
  obtain ⟨e, he⟩ := sortedAll_at s.heap its out
  have hz : (ss'.map V.str).length ≤ sizeLine := by rw [List.length_map, h2.length_eq]; exact Nat.le_trans (Nat.le_of_lt hn) (by decide)
  refine ⟨.ref (s.heap.objs.size + 1), _, I.laid (a := s.heap.objs.size + 1) (o := .lst (ss'.map V.str)) (t' := s.toks) (fun b o z => sortedAll_old z) (Nat.le_succ _) ?_, rfl, q _ ss' h2 h3 (I.hok.fresh (Nat.le_succ _))⟩
  exact ⟨hz, out.toList, e, of_strsA h1, by simpa [seqObj] using he⟩
end
end L2

set_option maxHeartbeats 4000000
namespace L2
open PySem PySem.Spec PyProof.Rows PySem.W
section
variable {X : Cx} {W : St → XK} {k : Nat} {f C : Addr} {fd : FuncData} {ps : List Str} {sp : Sp} {x : Str} {p p2 pos : Pos} {e stp : Expr} {es : List Expr} {te tf : TE} {tk : TO} {t : TA}
theorem Vals.rev {xs : List V} {us : List Value} (r : Vals xs us) : Vals xs.reverse us.reverse := by
  induction r with
  | nil => exact .nil
  | cons a b ih => rw [List.reverse_cons, List.reverse_cons]; exact ih.append (.cons a .nil)
end
end L2

set_option maxHeartbeats 4000000
namespace L2
open PySem PySem.Spec PyProof.Rows PySem.W
section
variable {prog : Program} {w : World} {A : Around} {E : Value → Shared → Prop} {s : Shared}
end
section
variable {X : Cx}
end
end L2

set_option maxHeartbeats 4000000
namespace L2
open PySem PySem.Spec PyProof.Rows PySem.W
structure FnOkH (P : Program) (w : World) (K : Frag) (mg : Str → Option Value) (base : Heap) (k : Nat) (f : Addr) (fd : FuncData) (ps : List Str) (sp : Sp) : Prop where
  len : ∀ vs H Q E, sp vs H Q E → vs.length = ps.length
  run : ∀ (A : Around) (x : Addr) (outer : List Env) (s : Shared) (H : Hp) (args : Args) (us : List Value) (vs : List V) (Q : VK) (E : XK), Room k A → Env0 P w K mg base A outer s H → BindsTo s fd args (ps.zip us) → Vals vs us → sp vs H Q E →
    codeAny (model P w) (A.mark (some (.ref x))) (.call (.ref f) args) (CR CX0 outer P w H s Q E) s
section
variable {P : Program} {w : World} {K : Frag} {mg : Str → Option Value} {base : Heap}
theorem Fun.okH {x qual : Str} {st : Stmt} {f : Addr} {fd : FuncData} {N ps : List Str} {k : Nat} {sp : Sp} (F : Fun K x qual st f fd) (S : FnScope N ps (defScope st)) (len : ∀ vs H Q E, sp vs H Q E → vs.length = ps.length)
    (hbody : ∀ (cdv : Value) (A : Around) (outer : List Env) (s : Shared) (H : Hp) (vs : List V) (Q : VK) (E : XK) (y : Addr), Room k (A.deeper (envOfC qual (defScope st) s.heap.objs.size f cdv)) → sp vs H Q E →
      ∃ t, PSs ((cxOf CX0 P w K mg base N qual (defScope st) f cdv A outer s H E).hand y [] fun _ _ => False) (defBody st) t ∧ t { nx := fun _ H' => Q .non H', rt := Q } (start N vs) H) : FnOkH P w K mg base (k + 1) f fd ps sp := by
  obtain ⟨oc, od, kV, doc, pm, an, cdv, ct, osl, rfl, lk, hcd⟩ := F.ex
  refine ⟨len, fun A y outer s H args us vs Q E hr e0 hb r hsp => ?_⟩
  have hl := len _ _ _ _ hsp
  have KX : K.In s.heap := e0.mod.kin.keeps fun b o e => (e0.bs b o e).1
  have lim : s.heap.NoLimit := e0.mod.nolimit.keeps fun b o e => (e0.bs b o e).1
  have hkind : ∀ z ∈ ps.zip us, (defScope st).names.lookup z.1 = some .local ∨ ((defScope st).names.lookup z.1 = some .cell ∧ ((cellsFrom (s.heap.objs.size + 1) (defScope st).names []).lookup z.1).isSome = true) := fun ⟨n, v⟩ hy => by
    rcases S.par n (List.of_mem_zip hy).1 with q | q
    · exact .inl q
    · exact .inr ⟨q, PySem.W.cellsFrom_some _ _ _ (.inl q)⟩
  refine codeAny_call_function (A := A.mark (some (.ref y))) hr.depth (KX _ _ lk) rfl S.co S.gen rfl (PySem.W.codeRec_of KX hcd) (hb _ _ _ _ ?_)
  refine wpAny_newFunctionEnv_cells S.kind hkind fun env he s1 x => ?_
  subst he
  refine ⟨lim.keeps x.toInCall.keep, codeAny_func ?_⟩
  obtain ⟨t, ht, hq⟩ := hbody cdv A outer s H vs Q E y (hr.deeper _) hsp
  have I : Inv (cxOf CX0 P w K mg base N qual (defScope st) f cdv A outer s H E) [] (start N vs) H s1 := inv_start S hr.hd e0 hl r x
  refine wpAny_mono (ht [] s1 (start N vs) H _ I.hand hq) (fun fl s' hs => ?_) fun e s' hs => hs.elim
  have fin : ∀ {σ' : St} {H' : Hp} {v : V} {u : Value}, Inv ((cxOf CX0 P w K mg base N qual (defScope st) f cdv A outer s H E).hand y [] fun _ _ => False) [] σ' H' s' → RelV v u → Q v H' → CE outer P w H s Q u s' :=
    fun {σ' H' v u} J rv q => ⟨v, H', J.os, J.bare, J.base, J.hok, rv, q⟩
  cases fl with
  | ret u =>
    obtain ⟨v, σ', H', J, rv, q⟩ := hs
    exact fin J rv q
  | next =>
    obtain ⟨σ', H', J, q⟩ := hs
    exact fin (v := V.non) (u := Value.none) J rfl q
  | brk =>
    obtain ⟨_, _, _, q⟩ := hs
    exact False.elim q
  | cont =>
    obtain ⟨_, _, _, q⟩ := hs
    exact False.elim q
end
section
variable {X : Cx} {k : Nat} {f y : Addr} {fd : FuncData} {ps : List Str} {sp : Sp} {x : Str} {st : Stmt} {p pos : Pos} {e : Expr} {es : List Expr} {t : TA} {pins0 : List (Addr × Obj)} {E0' : Value → Shared → Prop}
theorem pcallH (A : FnAt X.K X.mg x st ps f fd) (F : FnOkH X.prog X.w X.K X.mg X.base k f fd ps sp) (hr : Room k X.A) (ha : PA (X.hand y pins0 E0') (e :: es) t) (hg : Gl (X.hand y pins0 E0') x := by rfl) (hdb : (x == ("__debug__" : Str)) = false := by decide)
    (he : starEach (e :: es) X.env = (false, eval e X.env) :: starEach es X.env := by rfl) (hpl : (backTo pos (starEach es X.env)).any (·.1) = false := by rfl) :
    PE (X.hand y pins0 E0') (.Call (.Name x p) (e :: es) [] pos) (tCall sp [] E0 t) := by
  intro pins s σ H Q I h
  refine wpAny_Call_Name_kw (ld_glob I hg A.m ?_ hdb)
  refine PySem.W.callWith_K (h₀ := X.base) I.ok.mod.kin A.F.kp (thn (ha pos pins s σ H _ I h) fun us s1 ⟨vs, H1, I1, r, q⟩ => ⟨I1.kIn, ?_⟩) he hpl
  have q : sp (vs ++ []) H1 Q E0 := q
  rw [List.append_nil] at q
  have hl : (us ++ []).length = ps.length := by rw [List.append_nil, ← r.length]; exact F.len _ _ _ _ q
  have e0 := I1.env0
  refine wpAny_call (codeAny_mono (F.run X.A y X.stack s1 H1 ⟨us, []⟩ (us ++ []) vs Q E0 hr ⟨e0.frames, e0.mod, e0.bs, e0.bsz, e0.funs, e0.frf, e0.hok, e0.bare⟩ (A.b s1 us I1.kIn hl) (by rw [List.append_nil]; exact r) q) fun r s' hq => ?_)
  cases r with
  | error e => exact hq.elim
  | ok fl =>
    cases fl with
    | ret u => exact I1.after hq
    | next => exact False.elim hq
    | brk => exact False.elim hq
    | cont => exact False.elim hq
end
section
variable {X : Cx} {W : St → XK} {k : Nat} {f C : Addr} {fd : FuncData} {ps : List Str} {sp : Sp} {x : Str} {p pos : Pos} {e : Expr} {es : List Expr} {t : TA}
noncomputable def tMakeY (C : Addr) (sp : Sp) (W : St → XK) (t : TA) : TE := fun σ H Q => t σ H fun vs H1 => ∀ x dx, H1 x = none → H1 dx = none → dx ≠ x → sp (.ref x :: vs) (upd (upd H1 dx (.own x)) x (.ins C dx [])) (fun v H2 => v = .non ∧ Q (.ref x) H2) (W σ)
theorem rmakeY (M : Mk X.K C f) (hb : Binds X.K fd ps []) (F : FnOk X.prog X.w X.K X.mg X.base (CX1 X.prog X.w) k f fd ps sp) (hr : Room (k + 1) X.A) (hm : X.mg x = some (.ref C)) (hw : Wish X W) (ha : PA X (e :: es) t) (hg : Gl X x := by rfl)
    (hdb : (x == ("__debug__" : Str)) = false := by decide) (he : starEach (e :: es) X.env = (false, eval e X.env) :: starEach es X.env := by rfl) (hpl : (backTo pos (starEach es X.env)).any (·.1) = false := by rfl) :
    PE X (.Call (.Name x p) (e :: es) [] pos) (tMakeY C sp W t) := by
  intro pins s σ H Q I h
  refine wpAny_Call_Name_kw (ld_glob I hg hm ?_ hdb)
  refine PySem.W.callWith_K (h₀ := X.base) I.ok.mod.kin M.kp (thn (ha pos pins s σ H _ I h) fun us s1 ⟨vs, H1, I1, r, q⟩ => ⟨I1.kIn, ?_⟩) he hpl
  have hq := q (s1.heap.objs.size + 1) s1.heap.objs.size (I1.hok.fresh (Nat.le_succ _)) (I1.hok.fresh (Nat.le_refl _)) (Nat.ne_of_lt (Nat.lt_succ_self _))
  have I2 := Inv.made (C := C) I1
  have r2 : Vals (V.ref (s1.heap.objs.size + 1) :: vs) (Value.ref (s1.heap.objs.size + 1) :: us) := .cons rfl r
  have hl : (Value.ref (s1.heap.objs.size + 1) :: us ++ []).length = ps.length := by
    have e := r2.length
    rw [F.len _ _ _ _ hq] at e
    rw [List.append_nil]
    exact e.symm
  refine wpAny_call (make_map (f := f) I1.kIn M.makes M.init (beq_iff_eq.mp M.fn) (codeAny_mono (F.run _ X.stack _ _ ⟨Value.ref (s1.heap.objs.size + 1) :: us, []⟩ (Value.ref (s1.heap.objs.size + 1) :: us ++ []) _ _ (W σ) (hr.make C us [])
    (I2.env0.make C us []) (hb _ (Value.ref (s1.heap.objs.size + 1) :: us) I2.kIn hl) (by rw [List.append_nil]; exact r2) hq) fun r s' hq' => ?_))
  cases r with
  | error e => exact hw.came I2 hq'
  | ok fl =>
    cases fl with
    | ret u =>
      obtain ⟨v, H', I3, rv, ev, q3⟩ := I2.after hq'
      subst ev
      exact ⟨rv, ⟨V.ref (s1.heap.objs.size + 1), H', I3, rfl, q3⟩⟩
    | next => exact False.elim hq'
    | brk => exact False.elim hq'
    | cont => exact False.elim hq'
end
noncomputable def rInstXT (K : Frag) : List V → Hp → VK → Prop := fun xs H Q => ∃ (fl : Bool) (a C : Addr) (dx : Option Addr) (tp : Addr) (cs : List Addr) (b : Bool), xs = [.ref a, .ref tp] ∧ H tp = some (.tup (cs.map V.ref)) ∧ H a = some (ExO fl a C dx) ∧ (∀ p, dx = some p → ∃ fs, H p = some (XdO p fs)) ∧ ClsX K C ∧ kitAny K (.ref C) (cs.map Value.ref) = some b ∧ Q (.bl b) H
theorem refs_of : ∀ {cs : List Addr} {us : List Value}, Vals (cs.map V.ref) us → us = cs.map Value.ref
  | [], _, h => by cases h; rfl
  | c :: cs, _, h => by
    cases h with
    | cons r t =>
      have e1 := refs_of t
      subst e1
      obtain rfl : _ = Value.ref c := r
      rfl
section
variable {X : Cx}
theorem call_instXT : CallR X (.builtin "isinstance") (rInstXT X.K) := by
  intro pins s σ H xs us Q I r h
  obtain ⟨fl, a, C, dx, tp, cs, b, rfl, ht, ea, ed, cl, k, q⟩ := h
  obtain ⟨u, u2, rfl, rx, ry⟩ := vals2 r
  obtain rfl : u = Value.ref a := rx
  obtain rfl : u2 = Value.ref tp := ry
  obtain ⟨_, its, rv, o, h1, h2, n, h3⟩ := (show ObjOk X.prog X.w H s.heap tp (.tup (cs.map V.ref)) from I.hok tp _ ht)
  obtain rfl := refs_of rv
  obtain ⟨t0, a1, a2, a3, a4, a5, hx, hfl⟩ := exO_get I.hok ea
  have J : ∃ ox od, PySem.W.InstAt s.heap a ox C od := by
    cases dx with
    | none => exact ⟨_, none, hx, rfl, rfl, True.intro⟩
    | some p =>
      obtain ⟨fs, d⟩ := ed p rfl
      obtain ⟨mA, hn, _⟩ := xdO_get I.hok d
      obtain ⟨od, ho, _⟩ := lookIn_ns hn
      exact ⟨_, some od, hx, rfl, rfl, ho⟩
  obtain ⟨c0, d0, dt, sl0⟩ := o
  simp only at h2 h3
  subst h2 h3
  exact kia_tup (kitx_exc cl.cls cl.ga cl.bx cl.nga cl.ob cl.fo) I.kIn J h1 k (fun z => nomatch z) fun tk => ⟨.bl b, H, I.tok tk, rfl, q⟩
theorem call_instXTK {K : Frag} (h : X.K = K) : CallR X (.builtin "isinstance") (rInstXT K) := by subst h; exact call_instXT
end
end L2

set_option maxHeartbeats 4000000
namespace L2
open PySem PySem.Spec PyProof.Rows PySem.W
section
variable {X : Cx}
noncomputable def rInsert : V → List V → Hp → VK → Prop := fun x vs H Q => ∃ (l : Addr) (xs : List V) (i : Nat) (y : V), x = .ref l ∧ vs = [.int (i : Int), y] ∧ H l = some (.lst xs) ∧ i ≤ xs.length ∧ xs.length < 1000 ∧ Q .non (upd H l (.lst (xs.take i ++ y :: xs.drop i)))
theorem mt_insert : MtM X "list.insert" rInsert := by
  intro pins s σ H x vs v us Q I rx rv h
  obtain ⟨l, xs, i, y, rfl, rfl, hH, hi, hz, q⟩ := h
  cases rx
  obtain ⟨u1, u2, rfl, r1, r2⟩ := vals2 rv
  obtain ⟨t, rfl⟩ := r1
  obtain ⟨z, its, n, r, hl, e⟩ := I.lstM hH
  have h1000 : 1000 ≤ sizeLine := by decide
  have hfit : Builtin.List.listFitsIndex (i : Int) = true := fitsIndex_both (Int.le_trans (show -(2 ^ 63 : Int) ≤ 0 by decide) (Int.natCast_nonneg i)) (Int.lt_of_le_of_lt (show (i : Int) ≤ 1000 by omega) (by decide))
  have hne : ¬ (!Builtin.List.listFitsIndex (i : Int)) = true := by rw [hfit]; exact Bool.false_ne_true
  have hsz : its.toArray.size ≤ sizeLine := by rw [List.size_toArray]; omega
  clear hfit
  have e1 : (if (i : Int) < 0 then ((i : Int) + (its.toArray.size : Int)).toNat else min (i : Int).toNat its.toArray.size) = i := by
    rw [if_neg (by omega), List.size_toArray]; omega
  generalize (i : Int) = j at hne e1
  refine call_meets F.slot_list_insert ⟨_, e, rfl⟩ F.entry_list_insert (F.args_list_insert_3 _ _ _) (AutoSeq1.list_insert_list_int_val_1 l its.toArray n j t u2 hne hsz) ⟨e, ?_⟩
  refine ⟨.non, _, I.lset (its' := its.take i ++ u2 :: its.drop i) hH e ?_ ((r.take i).append (.cons r2 (r.drop i))) ?_, rfl, q⟩
  · show (its.toArray.extract 0 (if j < 0 then (j + (its.toArray.size : Int)).toNat else min j.toNat its.toArray.size)).push u2 ++ its.toArray.extract (if j < 0 then (j + (its.toArray.size : Int)).toNat else min j.toNat its.toArray.size) = _
    rw [e1]
    apply Array.ext'
    simp
    rw [List.take_of_length_le (by simp)]
  · rw [List.length_append, List.length_cons, List.length_take, List.length_drop]
    omega
end
end L2
namespace L2
open PySem PySem.Spec PyProof.Rows PySem.W
theorem comp_strG {z : Str} {g : TG} {te : TE} {τ0 : St} {H : Hp} {Fin : List V → Hp → Prop} (S : St → Prop) (R : Nat → V → Hp → Prop) (hm : ∀ i v H' H'', R i v H' → Same H' H'' → R i v H'') (hn : z.length ≤ sizeLine) (h0 : S τ0)
    (hte : ∀ (i c : Nat) τ H' (Q : St → V → Hp → Prop), z.cps.toList[i]? = some c → Same H H' → S τ → (∀ τ2 v H'', S τ2 → Same H' H'' → R i v H'' → Q τ2 v H'') → g (.str ⟨#[c]⟩) τ H' fun τ2 H2 => te τ2 H2 fun y H4 => Q τ2 y H4)
    (hfin : ∀ ys H', Same H H' → ys.length = z.cps.size → (∀ (i : Nat) v, ys[i]? = some v → R i v H') → Fin ys H') : CompW g tYes te (Its z) τ0 H Fin := by
  have hn' : z.cps.size ≤ sizeLine := hn
  refine ⟨fun i m τ ys H' => m = z.cps.size - i ∧ i ≤ z.cps.size ∧ ys.length = i ∧ (∀ (j : Nat) v, ys[j]? = some v → R j v H') ∧ Same H H' ∧ S τ, ⟨z.cps.size, rfl, Nat.zero_le _, rfl, fun j v h => by simp at h, Same.refl _, h0⟩, ?_⟩
  rintro i m τ ys H' ⟨rfl, hi, hyl, hr, sm, hS⟩
  by_cases hlt : i < z.cps.size
  · refine .inr ⟨hlt, fun x H'' y => ?_⟩
    obtain ⟨e, c, hc, y⟩ := y
    subst e y
    have key := hte i c τ H'' (fun τ2 y H4 => ys.length < sizeLine ∧ ∃ m', m' < z.cps.size - i ∧ (m' = z.cps.size - (i + 1) ∧ i + 1 ≤ z.cps.size ∧ (ys ++ [y]).length = i + 1 ∧ (∀ (j : Nat) v, (ys ++ [y])[j]? = some v → R j v H4) ∧ Same H H4 ∧ S τ2)) hc sm hS fun τ2 v H4 s2 s4 hv => by
      refine ⟨by omega, z.cps.size - (i + 1), by omega, rfl, hlt, by rw [List.length_append, hyl]; rfl, fun j u hj => ?_, sm.trans s4, s2⟩
      by_cases hji : j < ys.length
      · rw [List.getElem?_append_left hji] at hj
        exact hm _ _ _ _ (hr j u hj) s4
      · rw [List.getElem?_append_right (by omega)] at hj
        have hj0 : j - ys.length = 0 := by
          cases hh : j - ys.length with
          | zero => rfl
          | succ k => rw [hh] at hj; simp at hj
        rw [hj0] at hj
        have : j = i := by omega
        subst this
        have : v = u := by simpa using hj
        subst this
        exact hv
    exact key
  · have e : i = z.cps.size := by omega
    subst e
    exact .inl ⟨Nat.le_refl _, hfin ys H' sm hyl hr⟩
end L2

set_option maxHeartbeats 4000000
namespace Mine
open PySem PySem.Spec PyProof.Rows L2
noncomputable def top (i : Nat) : Stmt := PySem.Challenge.pw_drawhouse_k32_houses_refused.main.body.getD i (.Pass ⟨0, 0, 0, 0⟩)
noncomputable def clsBody : Stmt → List Stmt
  | .ClassDef _ _ _ b _ _ _ _ _ _ _ => b
  | _ => []
noncomputable abbrev s_i_TooMany : Stmt := (clsBody (top 5)).getD 0 (.Pass ⟨0, 0, 0, 0⟩)
noncomputable abbrev s_i_Double : Stmt := (clsBody (top 7)).getD 0 (.Pass ⟨0, 0, 0, 0⟩)
noncomputable abbrev s_i_Orphan : Stmt := (clsBody (top 8)).getD 0 (.Pass ⟨0, 0, 0, 0⟩)
noncomputable abbrev s_i_Clash : Stmt := (clsBody (top 9)).getD 0 (.Pass ⟨0, 0, 0, 0⟩)
noncomputable abbrev s_parent_of : Stmt := top 14
noncomputable abbrev s_is_orphan : Stmt := top 17
noncomputable abbrev s_is_clash : Stmt := top 18
noncomputable abbrev s_check_parts : Stmt := top 19
noncomputable abbrev s_m_House___init__ : Stmt := (clsBody (top 20)).getD 0 (.Pass ⟨0, 0, 0, 0⟩)
noncomputable abbrev s_m_House_addresses : Stmt := (clsBody (top 20)).getD 1 (.Pass ⟨0, 0, 0, 0⟩)
noncomputable abbrev s_m_Part___init__ : Stmt := (clsBody (top 22)).getD 0 (.Pass ⟨0, 0, 0, 0⟩)
noncomputable abbrev s_m_Part_bound : Stmt := (clsBody (top 22)).getD 1 (.Pass ⟨0, 0, 0, 0⟩)
noncomputable abbrev s_m_Let___init__ : Stmt := (clsBody (top 25)).getD 0 (.Pass ⟨0, 0, 0, 0⟩)
noncomputable abbrev s_m_Let_binds : Stmt := (clsBody (top 25)).getD 1 (.Pass ⟨0, 0, 0, 0⟩)
noncomputable abbrev s_law_cell : Stmt := top 27
noncomputable abbrev s_law_pick : Stmt := top 28
noncomputable abbrev s_law_words : Stmt := top 29
noncomputable abbrev s_law_addresses : Stmt := top 30
noncomputable abbrev s_law_spoilt : Stmt := top 31
noncomputable abbrev s_law_due : Stmt := top 32
noncomputable abbrev s_law_word : Stmt := top 33
noncomputable abbrev s_law_told : Stmt := top 34
noncomputable abbrev s_law : Stmt := top 35
noncomputable def cellN (ns : List Int) (k : Int) : Int := if k < (ns.length : Int) then Builtin.bitAnd (ns.getD k.toNat 0) (1 * 2 ^ (4400 : Int).toNat - 1) else 0
noncomputable def spCellN (K : PySem.W.Frag) : Sp := fun vs H Q _ => ∃ (a : Addr) (ns : List Int) (k : Int), vs = [.ref a, .int k] ∧ SqL K H a (ns.map V.int) ∧ 0 ≤ k ∧ Pur (.int (cellN ns k)) H Q

section
variable {P : Program} {w : World} {K : PySem.W.Frag} {mg : Str → Option Value} {base : Heap}
noncomputable abbrev psCell : List Str := ["_law_script", "_law_k"]
theorem scCell : FnScope ["_law_script", "_law_k"] psCell (defScope s_law_cell) := ⟨rfl, rfl, rfl, by decide +kernel, rfl, by decide +kernel, by decide +kernel⟩
theorem ok_cell {f : Addr} {fd : FuncData} (F : Fun K "_law_cell" "_law_cell" s_law_cell f fd) (hlen : mg "len" = none) : FnOk P w K mg base CX0 1 f fd psCell (spCellN K) := by
  refine F.ok scCell (fun vs H Q E h => ?_) (fun cdv A outer s H vs Q E hr h => ?_)
  · obtain ⟨a, ns, k, rfl, _⟩ := h
    rfl
  · obtain ⟨a, ns, k, rfl, hS, h0, q⟩ := h
    refine ⟨_, pss_cons (ps_if (pt_cmpR op_lt (pv 1) (pe_callB call_len_seq (by rfl) hlen PySem.boot_len (pa_cons (pv 0) pa_nil)) (nomark _))
        (pss_one (ps_ret (pe_op op_and (pe_ix ix_list (pv 0) (pv 1) (fun _ _ => rfl)) (pe_op op_sub (pe_op op_shl pe_int pe_int) pe_int)))) pss_nil)
      (pss_one (ps_ret pe_int)), ?_⟩
    refine ⟨_, rfl, _, rfl, a, _, rfl, .inl hS, _, _, rfl, rfl, _, rfl, ?_⟩
    rw [List.length_map]
    refine ite2d (fun hk => ?_) (fun hk => ?_)
    · have hk2 : ns[k.toNat]? = some (ns.getD k.toNat 0) := by
        rw [List.getD_eq_getElem?_getD, List.getElem?_eq_getElem (by omega)]
        rfl
      have hk3 : (ns.map V.int)[k.toNat]? = some (V.int (ns.getD k.toNat 0)) := by rw [List.getElem?_map, hk2]; rfl
      have hat : atI (ns.map V.int) k = some (V.int (ns.getD k.toNat 0)) := by
        have := atI_nat hk3
        rwa [show ((k.toNat : Nat) : Int) = k from by omega] at this
      refine ⟨_, rfl, _, rfl, a, _, _, _, rfl, rfl, hS, hat, _, _, rfl, rfl, ⟨by decide, by decide, by decide⟩, _, _, rfl, rfl, _, _, rfl, rfl, ?_⟩
      have e : cellN ns k = Builtin.bitAnd (ns.getD k.toNat 0) (1 * 2 ^ (4400 : Int).toNat - 1) := if_pos hk
      have q' := q H (Same.refl H)
      rw [e] at q'
      exact q'
    · have e : cellN ns k = 0 := if_neg hk
      have q' := q H (Same.refl H)
      rw [e] at q'
      exact q'
noncomputable abbrev psPick : List Str := ["_law_cell_here", "_law_k", "_law_many"]
theorem scPick : FnScope ["_law_cell_here", "_law_k", "_law_many", "_law_great", "_law_by", "_law_one"] psPick (defScope s_law_pick) := ⟨rfl, rfl, rfl, by decide +kernel, rfl, by decide +kernel, by decide +kernel⟩
theorem ok_pick {f : Addr} {fd : FuncData} (F : Fun K "_law_pick" "_law_pick" s_law_pick f fd) : FnOk P w K mg base CX0 1 f fd psPick spPick := by
  refine F.ok scPick (fun vs H Q E h => ?_) (fun cdv A outer s H vs Q E hr h => ?_)
  · obtain ⟨c, k, m, rfl, _⟩ := h
    rfl
  · obtain ⟨c, k, m, rfl, h0, h1, hm, q⟩ := h
    refine ⟨_, pss_cons (ps_if (pw_and (pt_cmpR op_eq (pe_op op_mod (pv 0) pe_int) pe_int (nomark _)) (pw_and1 (pt_cmpR op_gt (pe_op op_shr (pv 0) pe_int) pe_int (nomark _)))).pt
        (pss_one (ps_ret (pe_op op_mod (pe_op op_and (pe_op op_shr (pv 0) (pe_op op_add pe_int (pe_op op_mul pe_int (pv 1)))) pe_int) (pv 2)))) pss_nil)
      (pss_cons (ps_set (i := 3) scPick.nd rfl (Or.inl rfl) pe_int)
      (pss_cons (ps_set (i := 4) scPick.nd rfl (Or.inl rfl) (pe_ix ix_list (pe_lst (pa_cons pe_int (pa_cons pe_int (pa_cons pe_int (pa_cons pe_int (pa_cons pe_int (pa_cons pe_int (pa_cons pe_int (pa_cons pe_int pa_nil))))))))) (pe_op op_mod (pv 1) pe_int) (fun _ _ => rfl)))
      (pss_cons (ps_set (i := 4) scPick.nd rfl (Or.inl rfl) (pe_op op_mul (pv 4) (pe_ix ix_list (pe_lst (pa_cons pe_int (pa_cons pe_int (pa_cons pe_int (pa_cons pe_int (pa_cons pe_int pa_nil)))))) (pe_op op_fdiv (pv 1) pe_int) (fun _ _ => rfl))))
      (pss_cons (ps_set (i := 5) scPick.nd rfl (Or.inl rfl) (pe_op op_mod (pe_op op_mul (pe_op op_add (pe_op op_mod (pe_op op_fdiv (pv 0) pe_int) (pv 3)) pe_int) (pv 4)) (pv 3)))
      (pss_cons (ps_set (i := 5) scPick.nd rfl (Or.inl rfl) (pe_op op_mod (pe_op op_mul (pv 5) (pv 5)) pe_int))
      (pss_one (ps_ret (pe_op op_mod (pe_op op_fdiv (pe_op op_mod (pe_op op_mul (pe_op op_add (pe_op op_add (pv 5) (pv 1)) pe_int) (pe_op op_add (pe_op op_fdiv (pv 5) pe_int) pe_int)) pe_int) pe_int) (pv 2))))))))), ?_⟩
    obtain ⟨t1, t2, t3⟩ := tab8_at (k := k % 8) (by omega) (by omega)
    obtain ⟨u1, u2, u3⟩ := tab5_at (k := k / 8) (by omega) (by omega)
    have a8 : atI (tab8.map V.int) (k % 8) = some (V.int (tab8.getD (k % 8).toNat 0)) := by
      have := atI_nat (xs := tab8.map V.int) (j := (k % 8).toNat) (by rw [List.getElem?_map, t1]; rfl)
      rwa [show (((k % 8).toNat : Nat) : Int) = k % 8 from by omega] at this
    have a5 : atI (tab5.map V.int) (k / 8) = some (V.int (tab5.getD (k / 8).toNat 0)) := by
      have := atI_nat (xs := tab5.map V.int) (j := (k / 8).toNat) (by rw [List.getElem?_map, u1]; rfl)
      rwa [show (((k / 8).toNat : Nat) : Int) = k / 8 from by omega] at this
    have g1 := one1_ge c k
    have g2 := one1_lt c k
    have g3 := one2_ge c k
    have g4 := one2_lt c k
    have ms := mul_small t2 t3 u2 u3
    refine ⟨_, rfl, _, _, rfl, rfl, (by show (0 : Int) < 2; decide), rfl, _, rfl, ?_⟩
    refine iteVi (fun hA => ?_) (fun hA => ?_)
    · refine ⟨_, rfl, _, _, rfl, rfl, (by show (0 : Int) ≤ 400; decide), _, _, rfl, rfl, _, rfl, ?_⟩
      refine ite2d (fun hB => ?_) (fun hB => ?_)
      · have e : pick c k m = pickA c k m := if_pos ⟨hA, hB⟩
        have q' := q H (Same.refl H)
        rw [e] at q'
        exact ⟨_, rfl, _, rfl, _, _, rfl, rfl, .inl ⟨by decide, by decide⟩, _, _, rfl, rfl, _, _, rfl, rfl, (by show (0 : Int) ≤ 1 + 10 * k; omega), _, _, rfl, rfl, _, rfl, _, _, rfl, rfl, hm, q'⟩
      · have e : pick c k m = pickB c k m := if_neg fun z => hB z.2
        refine ⟨by show 8 ≤ sizeLine; decide, fun p hp => ?_⟩
        refine ⟨_, rfl, _, _, rfl, rfl, (by show (0 : Int) < 8; decide), p, tab8.map V.int, _, _, rfl, rfl, SqL.of upd_same, a8, ?_⟩
        refine ⟨_, rfl, (by show 5 ≤ sizeLine; decide), fun p2 hp2 => ?_⟩
        refine ⟨_, rfl, _, _, rfl, rfl, ⟨by decide, by decide⟩, p2, tab5.map V.int, _, _, rfl, rfl, SqL.of upd_same, a5, _, _, rfl, rfl, .inl ⟨by omega, by omega⟩, ?_⟩
        refine ⟨_, rfl, _, _, rfl, rfl, ⟨by decide, by decide⟩, _, rfl, _, _, rfl, rfl, (by show (0 : Int) < 2305843009213693951; decide), _, _, rfl, rfl, _, rfl, _, _, rfl, rfl, .inr ⟨by omega, by omega⟩, _, rfl, _, _, rfl, rfl, (by show (0 : Int) < 2305843009213693951; decide), ?_⟩
        refine ⟨_, rfl, _, rfl, _, _, rfl, rfl, .inl ⟨(by show -(2 ^ 64) < one1 c k; omega), (by show one1 c k < 2 ^ 64; omega)⟩, _, _, rfl, rfl, (by show (0 : Int) < 1000000000039; decide), ?_⟩
        refine ⟨_, rfl, _, rfl, _, _, rfl, rfl, _, _, rfl, rfl, _, rfl, _, _, rfl, rfl, ⟨by decide, by decide⟩, _, _, rfl, rfl, _, _, rfl, rfl, .inl ⟨(by show -(2 ^ 64) < one2 c k + k + 1; omega), (by show one2 c k + k + 1 < 2 ^ 64; omega)⟩, _, _, rfl, rfl, (by show (0 : Int) < 67280421310721; decide), _, _, rfl, rfl, ⟨by decide, by decide⟩, _, rfl, _, _, rfl, rfl, hm, ?_⟩
        rw [e] at q
        exact q _ ((Same.new hp).put hp2)
    · refine iteF ?_
      have e : pick c k m = pickB c k m := if_neg fun z => hA z.1
      refine ⟨by show 8 ≤ sizeLine; decide, fun p hp => ?_⟩
      refine ⟨_, rfl, _, _, rfl, rfl, (by show (0 : Int) < 8; decide), p, tab8.map V.int, _, _, rfl, rfl, SqL.of upd_same, a8, ?_⟩
      refine ⟨_, rfl, (by show 5 ≤ sizeLine; decide), fun p2 hp2 => ?_⟩
      refine ⟨_, rfl, _, _, rfl, rfl, ⟨by decide, by decide⟩, p2, tab5.map V.int, _, _, rfl, rfl, SqL.of upd_same, a5, _, _, rfl, rfl, .inl ⟨by omega, by omega⟩, ?_⟩
      refine ⟨_, rfl, _, _, rfl, rfl, ⟨by decide, by decide⟩, _, rfl, _, _, rfl, rfl, (by show (0 : Int) < 2305843009213693951; decide), _, _, rfl, rfl, _, rfl, _, _, rfl, rfl, .inr ⟨by omega, by omega⟩, _, rfl, _, _, rfl, rfl, (by show (0 : Int) < 2305843009213693951; decide), ?_⟩
      refine ⟨_, rfl, _, rfl, _, _, rfl, rfl, .inl ⟨(by show -(2 ^ 64) < one1 c k; omega), (by show one1 c k < 2 ^ 64; omega)⟩, _, _, rfl, rfl, (by show (0 : Int) < 1000000000039; decide), ?_⟩
      refine ⟨_, rfl, _, rfl, _, _, rfl, rfl, _, _, rfl, rfl, _, rfl, _, _, rfl, rfl, ⟨by decide, by decide⟩, _, _, rfl, rfl, _, _, rfl, rfl, .inl ⟨(by show -(2 ^ 64) < one2 c k + k + 1; omega), (by show one2 c k + k + 1 < 2 ^ 64; omega)⟩, _, _, rfl, rfl, (by show (0 : Int) < 67280421310721; decide), _, _, rfl, rfl, ⟨by decide, by decide⟩, _, rfl, _, _, rfl, rfl, hm, ?_⟩
      rw [e] at q
      exact q _ ((Same.new hp).put hp2)
end


noncomputable abbrev psPITooMany : List Str := ["self", "at"]
theorem scPITooMany : FnScope ["self", "at"] psPITooMany (defScope s_i_TooMany) := ⟨rfl, rfl, rfl, by decide +kernel, rfl, by decide +kernel, by decide +kernel⟩
noncomputable abbrev psPIDouble : List Str := ["self", "at"]
theorem scPIDouble : FnScope ["self", "at"] psPIDouble (defScope s_i_Double) := ⟨rfl, rfl, rfl, by decide +kernel, rfl, by decide +kernel, by decide +kernel⟩
noncomputable abbrev psPIOrphan : List Str := ["self", "at"]
theorem scPIOrphan : FnScope ["self", "at"] psPIOrphan (defScope s_i_Orphan) := ⟨rfl, rfl, rfl, by decide +kernel, rfl, by decide +kernel, by decide +kernel⟩
noncomputable abbrev psPIClash : List Str := ["self", "at"]
theorem scPIClash : FnScope ["self", "at"] psPIClash (defScope s_i_Clash) := ⟨rfl, rfl, rfl, by decide +kernel, rfl, by decide +kernel, by decide +kernel⟩
noncomputable abbrev psPParentOf : List Str := ["address"]
theorem scPParentOf : FnScope ["address"] psPParentOf (defScope s_parent_of) := ⟨rfl, rfl, rfl, by decide +kernel, rfl, by decide +kernel, by decide +kernel⟩
noncomputable abbrev psPIsOrphan : List Str := ["part", "addresses"]
theorem scPIsOrphan : FnScope ["part", "addresses", "parent"] psPIsOrphan (defScope s_is_orphan) := ⟨rfl, rfl, rfl, by decide +kernel, rfl, by decide +kernel, by decide +kernel⟩
noncomputable abbrev psPIsClash : List Str := ["part", "addresses"]
theorem scPIsClash : FnScope ["part", "addresses"] psPIsClash (defScope s_is_clash) := ⟨rfl, rfl, rfl, by decide +kernel, rfl, by decide +kernel, by decide +kernel⟩
noncomputable abbrev psPCheckParts : List Str := ["parts"]
theorem scPCheckParts : FnScope ["parts", "addresses", "at", "part"] psPCheckParts (defScope s_check_parts) := ⟨rfl, rfl, rfl, by decide +kernel, rfl, by decide +kernel, by decide +kernel⟩
noncomputable abbrev psPMHouseInit : List Str := ["self", "parts"]
theorem scPMHouseInit : FnScope ["self", "parts"] psPMHouseInit (defScope s_m_House___init__) := ⟨rfl, rfl, rfl, by decide +kernel, rfl, by decide +kernel, by decide +kernel⟩
noncomputable abbrev psPMHouseAddresses : List Str := ["self"]
theorem scPMHouseAddresses : FnScope ["self"] psPMHouseAddresses (defScope s_m_House_addresses) := ⟨rfl, rfl, rfl, by decide +kernel, rfl, by decide +kernel, by decide +kernel⟩
noncomputable abbrev psPMPartInit : List Str := ["self", "address", "rows"]
theorem scPMPartInit : FnScope ["self", "address", "rows"] psPMPartInit (defScope s_m_Part___init__) := ⟨rfl, rfl, rfl, by decide +kernel, rfl, by decide +kernel, by decide +kernel⟩
noncomputable abbrev psPMPartBound : List Str := ["self"]
theorem scPMPartBound : FnScope ["self", "names"] psPMPartBound (defScope s_m_Part_bound) := ⟨rfl, rfl, rfl, by decide +kernel, rfl, by decide +kernel, by decide +kernel⟩
noncomputable abbrev psPMLetInit : List Str := ["self", "name", "terms"]
theorem scPMLetInit : FnScope ["self", "name", "terms"] psPMLetInit (defScope s_m_Let___init__) := ⟨rfl, rfl, rfl, by decide +kernel, rfl, by decide +kernel, by decide +kernel⟩
noncomputable abbrev psPMLetBinds : List Str := ["self"]
theorem scPMLetBinds : FnScope ["self"] psPMLetBinds (defScope s_m_Let_binds) := ⟨rfl, rfl, rfl, by decide +kernel, rfl, by decide +kernel, by decide +kernel⟩
noncomputable abbrev psWords : List Str := ["_law_cell_here"]
theorem scWords : FnScope ["_law_cell_here", "_law_letters", "_law_base", "_law_size", "_law_at", "_law_first", "_law_head", "_law_tail"] psWords (defScope s_law_words) := ⟨rfl, rfl, rfl, by decide +kernel, rfl, by decide +kernel, by decide +kernel⟩
noncomputable abbrev psAddresses : List Str := ["_law_cell_here", "_law_many", "_law_words_here"]
theorem scAddresses : FnScope ["_law_cell_here", "_law_many", "_law_words_here", "_law_found", "_law_k", "_law_above", "_law_parent", "_law_address"] psAddresses (defScope s_law_addresses) := ⟨rfl, rfl, rfl, by decide +kernel, rfl, by decide +kernel, by decide +kernel⟩
noncomputable abbrev psSpoilt : List Str := ["_law_some", "_law_cell_here", "_law_words_here"]
theorem scSpoilt : FnScope ["_law_some", "_law_cell_here", "_law_words_here", "_law_kind", "_law_at", "_law_one", "_law_word_here", "_law_more", "_law_spot", "_law_names", "_law_last"] psSpoilt (defScope s_law_spoilt) := ⟨rfl, rfl, rfl, by decide +kernel, rfl, by decide +kernel, by decide +kernel⟩
noncomputable abbrev psDue : List Str := ["_law_some"]
theorem scDue : FnScope ["_law_some", "_law_known", "_law_at", "_law_address", "_law_names", "_law_name"] psDue (defScope s_law_due) := ⟨rfl, rfl, rfl, by decide +kernel, rfl, by decide +kernel, by decide +kernel⟩
noncomputable abbrev psWord : List Str := ["_law_e"]
theorem scWord : FnScope ["_law_e", "_law_found"] psWord (defScope s_law_word) := ⟨rfl, rfl, rfl, by decide +kernel, rfl, by decide +kernel, by decide +kernel⟩
noncomputable abbrev psTold : List Str := ["_law_some"]
theorem scTold : FnScope ["_law_some", "_law_handed", "_law_kept", "_law_found", "_law_house", "_law_e"] psTold (defScope s_law_told) := ⟨rfl, rfl, rfl, by decide +kernel, rfl, by decide +kernel, by decide +kernel⟩
noncomputable abbrev psLaw : List Str := ["_law_script"]
theorem scLaw : FnScope ["_law_script", "_law_words_here", "_law_head", "_law_addresses_here", "_law_some", "_law_k", "_law_names", "_law_turn"] psLaw (defScope s_law) := ⟨rfl, rfl, rfl, by decide +kernel, rfl, by decide +kernel, by decide +kernel⟩
section
variable {P : Program} {w : World} {K : PySem.W.Frag} {mg : Str → Option Value} {base : Heap}
noncomputable def spLaw (K : PySem.W.Frag) : Sp := fun vs H Q _ => ∃ (a : Addr) (ns : List Int), vs = [.ref a] ∧ SqL K H a (ns.map V.int) ∧ ns.length ≤ 63 ∧ ∀ H', Q (.bl true) H'
theorem big1000 : 1000 ≤ sizeLine := by decide
noncomputable def spIniL (C : Nat → Addr) (i : Nat) : Sp := fun vs H Q _ => ∃ (x dx : Addr) (r : RowD) (d : Addr), vs = [.ref x, .str r.nm, .ref d] ∧ r.so = i ∧ H x = some (.ins (C i) dx []) ∧ TmsAt H d r.ts ∧ r.ts.length ≤ 10 ∧
  ∀ l H', H l = none → SameBut x H H' → RowAt C H' x l r → Q .non H'
noncomputable def spB (C : Nat → Addr) (i : Nat) : Sp := fun vs H Q _ => ∃ (a l : Addr) (r : RowD), vs = [.ref a] ∧ r.so = i ∧ RowAt C H a l r ∧ Pur (.str r.nm) H Q
theorem isNm_of {z : Str} (h : (decide (1 ≤ z.length) && decide (z.length ≤ 8) && z.cps.toList.all fun n => decide (97 ≤ n) && decide (n ≤ 122)) = true) : IsNm z := by
  simp only [Bool.and_eq_true, decide_eq_true_eq, List.all_eq_true] at h
  exact ⟨h.1.1, h.1.2, fun n hn => h.2 n hn⟩
theorem map_of {xs : List V} {ys : List Str} (hl : ys.length = xs.length) (h : ∀ (i : Nat) v, xs[i]? = some v → ∃ z, ys[i]? = some z ∧ v = .str z) : xs = ys.map V.str := by
  apply List.ext_getElem?
  intro i
  rw [List.getElem?_map]
  cases e : xs[i]? with
  | none =>
    have e2 : ys[i]? = none := by
      rw [List.getElem?_eq_none_iff] at e ⊢
      omega
    rw [e2]; rfl
  | some v =>
    obtain ⟨z, ez, rfl⟩ := h i v e
    rw [ez]; rfl
theorem names_of {xs : List V} (h : ∀ (i : Nat) v, xs[i]? = some v → ∃ z, v = V.str z ∧ IsNm z) : ∃ ys : List Str, ys.length = xs.length ∧ xs = ys.map V.str ∧ ∀ y ∈ ys, IsNm y := by
  obtain ⟨ys, hyl, hys⟩ := choose_list (fun _ v z => v = V.str z ∧ IsNm z) xs 0 (fun i v e => h i v e)
  refine ⟨ys, hyl, map_of hyl fun i v e => ?_, fun y hy => ?_⟩
  · obtain ⟨z, ez, rz, _⟩ := hys i v e
    exact ⟨z, ez, rz⟩
  · obtain ⟨i, hi, e⟩ := List.getElem_of_mem hy
    have hx : xs[i]? = some (xs[i]'(by omega)) := List.getElem?_eq_getElem (by omega)
    obtain ⟨z, ez, _, nz⟩ := hys i _ hx
    rw [List.getElem?_eq_getElem hi, e] at ez
    cases ez
    exact nz
theorem sF (i j : Nat) (h : kitv i j = false := by rfl) (hi : i ≤ 5 := by decide) (hj : j ≤ 5 := by decide) : decide (V.str (sortW i) = V.str (sortW j)) = false := (sort_dec hi hj).trans h
theorem six {n : Nat} (h : n ≤ 5) : n = 0 ∨ n = 1 ∨ n = 2 ∨ n = 3 ∨ n = 4 ∨ n = 5 := by
  cases n with
  | zero => exact .inl rfl
  | succ n => cases n with
    | zero => exact .inr (.inl rfl)
    | succ n => cases n with
      | zero => exact .inr (.inr (.inl rfl))
      | succ n => cases n with
        | zero => exact .inr (.inr (.inr (.inl rfl)))
        | succ n => cases n with
          | zero => exact .inr (.inr (.inr (.inr (.inl rfl))))
          | succ n => cases n with
            | zero => exact .inr (.inr (.inr (.inr (.inr rfl))))
            | succ n => exact absurd h (by omega)
theorem new_ins {H : Hp} {C x dx : Addr} (hx : H x = none) (hdx : H dx = none) : Same H (upd (upd H dx (.own x)) x (.ins C dx [])) := fun b o e => by
  rw [upd_ne (ne_of_none e hx), upd_ne (ne_of_none e hdx)]
  exact e
noncomputable def PairAt (C : Nat → Addr) (A : Addr) (H : Hp) (y : V) : Prop := ∃ (t x l : Addr) (v : V) (lt : Addr) (r : RowD), y = .ref t ∧ H t = some (.tup [.ref x, v]) ∧ RowAt C H x l r ∧ RowTup H v lt r ∧ GoodR r ∧ l ≠ A ∧ lt ≠ A
theorem PairAt.same {C : Nat → Addr} {A : Addr} {H H' : Hp} {y : V} (h : PairAt C A H y) (s : Same H H') : PairAt C A H' y := by
  obtain ⟨t, x, l, v, lt, r, e, ht, ra, rt, g, n1, n2⟩ := h
  exact ⟨t, x, l, v, lt, r, e, s _ _ ht, ra.same s, rt.same s, g, n1, n2⟩
structure PFam (K : PySem.W.Frag) (C : Addr) : Prop where
  cl : RCl K C
  na : NoAttr K C "address"
  nr : NoAttr K C "rows"
  kit : PySem.W.kitOne K (.ref C) (.ref C) = some true
structure GoodRs (rs : List RowD) : Prop where
  hi : rs.length ≤ 12
  ok : ∀ r ∈ rs, GoodR r
theorem GoodRs.at {rs : List RowD} (g : GoodRs rs) {i : Nat} {r : RowD} (h : rs[i]? = some r) : GoodR r := g.ok r (List.mem_of_getElem? h)
noncomputable def RowsAt (C : Nat → Addr) (H : Hp) (l : Addr) (rs : List RowD) : Prop := ∃ xs : List V, H l = some (.lst xs) ∧ xs.length = rs.length ∧ ∀ (i : Nat) r, rs[i]? = some r → ∃ a t, xs[i]? = some (.ref a) ∧ RowAt C H a t r
theorem RowsAt.same {C : Nat → Addr} {H H' : Hp} {l : Addr} {rs : List RowD} (h : RowsAt C H l rs) (s : Same H H') : RowsAt C H' l rs := by
  obtain ⟨xs, hl, hn, hx⟩ := h
  refine ⟨xs, s _ _ hl, hn, fun i r e => ?_⟩
  obtain ⟨a, t, e2, ra⟩ := hx i r e
  exact ⟨a, t, e2, ra.same s⟩
noncomputable def PartAt (C : Nat → Addr) (H : Hp) (p : Addr) (ad : Str) (l : Addr) (rs : List RowD) : Prop := ∃ dx fs, H p = some (.ins (C 7) dx fs) ∧ fs.lookup ("address" : Str) = some (.str ad) ∧ fs.lookup ("rows" : Str) = some (.ref l) ∧
  fs.lookup ("bound" : Str) = none ∧ fs.lookup ("place_of" : Str) = none ∧ fs.lookup ("text" : Str) = none ∧ RowsAt C H l rs
theorem PartAt.same {C : Nat → Addr} {H H' : Hp} {p : Addr} {ad : Str} {l : Addr} {rs : List RowD} (h : PartAt C H p ad l rs) (s : Same H H') : PartAt C H' p ad l rs := by
  obtain ⟨dx, fs, e, a1, a2, a3, a4, a5, r⟩ := h
  exact ⟨dx, fs, s _ _ e, a1, a2, a3, a4, a5, r.same s⟩
theorem TmsAt.but {H H' : Hp} {l x C dx : Addr} {ts : List Trm} {fs : List (Str × V)} (h : TmsAt H l ts) (hx : H x = some (.ins C dx fs)) (s : SameBut x H H') : TmsAt H' l ts := by
  obtain ⟨xs, hl, hn, ht⟩ := h
  refine ⟨xs, s _ _ hl (ne_of hl hx (by intro z; cases z)), hn, fun i v e => ?_⟩
  obtain ⟨t, et, tm⟩ := ht i v e
  exact ⟨t, et, tm.but hx s⟩
theorem RowAt.but {C : Nat → Addr} {H H' : Hp} {a t x D dx : Addr} {r : RowD} (h : RowAt C H a t r) (g : GoodR r) (hx : H x = some (.ins D dx [])) (s : SameBut x H H') : RowAt C H' a t r := by
  obtain ⟨dy, fs, e, f⟩ := h
  have ne : a ≠ x := fun z => by
    rw [z, hx] at e
    cases e
    rcases Nat.lt_or_ge r.so 5 with k | k
    · exact absurd (f.nm k) (by intro z; cases z)
    · exact absurd (f.tm (.inr (.inr (Nat.le_antisymm g.so k)))).1 (by intro z; cases z)
  exact ⟨dy, fs, s _ _ e ne, f.nm, fun k => ⟨(f.tm k).1, (f.tm k).2.but hx s⟩, f.ad, f.wd, f.nb, f.na, f.ns⟩
noncomputable def isE (v : V) : Bool := !decide (v = .str "")
noncomputable def namesV (rs : List RowD) : List V := (rs.map fun r => V.str r.nm).filter isE
noncomputable def spPIni (C : Nat → Addr) : Sp := fun vs H Q _ => ∃ (x dx : Addr) (ad : Str) (d : Addr) (rs : List RowD), vs = [.ref x, .str ad, .ref d] ∧ H x = some (.ins (C 7) dx []) ∧ RowsAt C H d rs ∧ GoodRs rs ∧
  ∀ l H', H l = none → SameBut x H H' → PartAt C H' x ad l rs → Q .non H'
theorem inV_no {x : Str} {xs : List V} (h : ∀ v ∈ xs, ∃ z, v = .str z ∧ z ≠ x) : inV (.str x) xs = false := by
  unfold inV
  rw [List.any_eq_false]
  intro v hv k
  obtain ⟨z, rfl, hz⟩ := h v hv
  exact hz (by simpa [eqV] using k)
theorem deq_refl {K : PySem.W.Frag} {H : Hp} {n : Nat} {v : V} (h : flatV v = true ∨ ∃ p, v = .ref p) : DEq K H n v v := by
  rcases h with h | ⟨p, rfl⟩
  · cases v with
    | non => exact .non
    | bl b => exact .bl b
    | int i => exact .int i
    | str x => exact .str x
    | _ => cases h
  · exact .same p
theorem dsq_same {K : PySem.W.Frag} {H : Hp} {a b : Addr} {xs : List V} (ha : H a = some (.lst xs)) (hb : H b = some (.lst xs)) (h : ∀ v ∈ xs, flatV v = true ∨ ∃ p, v = .ref p) : DSq K H a b :=
  ⟨0, xs, xs, by decide, rfl, .inr ⟨SqL.of ha, SqL.of hb⟩, fun i x y ex ey => by rw [ex] at ey; cases ey; exact deq_refl (h x (List.mem_of_getElem? ex))⟩
theorem RowAt.off {C : Nat → Addr} {H : Hp} {a t d : Addr} {r : RowD} {hs : List V} (h : RowAt C H a t r) (g : GoodR r) (hd : H d = some (.lst hs)) (hh : ∀ v ∈ hs, ∃ b D dx fs, v = V.ref b ∧ H b = some (.ins D dx fs)) : ∃ t', RowAt C H a t' r ∧ t' ≠ d := by
  by_cases k : t = d
  · obtain ⟨dy, fs, e, f⟩ := h
    have no : ¬ (r.so = 0 ∨ r.so = 1 ∨ r.so = 5) := fun z => by
      obtain ⟨_, xs, hl, hn, hx⟩ := f.tm z
      rw [k, hd] at hl
      cases hl
      have h0 : 0 < hs.length := by rw [hn]; exact List.length_pos_iff.mpr g.ts.lo
      obtain ⟨b, D, dx, fs2, e3, e4⟩ := hh hs[0] (List.getElem_mem h0)
      obtain ⟨tt, _, pp, y, e5, e6, _⟩ := hx 0 _ (List.getElem?_eq_getElem h0)
      rw [e3] at e5
      cases e5
      rw [e4] at e6
      cases e6
    exact ⟨a, ⟨dy, fs, e, f.nm, fun z => absurd z no, f.ad, f.wd, f.nb, f.na, f.ns⟩, ne_of e hd (by intro z; cases z)⟩
  · exact ⟨t, h, k⟩
theorem PartAt.clear {C : Nat → Addr} {H : Hp} {p l d : Addr} {ad : Str} {rs : List RowD} {hs : List V} (h : PartAt C H p ad l rs) (g : GoodRs rs) (hd : H d = some (.lst hs)) (hld : l ≠ d) (hh : ∀ v ∈ hs, ∃ b D dx fs, v = V.ref b ∧ H b = some (.ins D dx fs)) : PartAt C (upd H d (.lst [])) p ad l rs := by
  obtain ⟨dx, fs, e, a1, a2, a3, a4, a5, xs, hl, hn, hx⟩ := h
  refine ⟨dx, fs, by rw [upd_ne (ne_of e hd (by intro z; cases z))]; exact e, a1, a2, a3, a4, a5, xs, by rw [upd_ne hld]; exact hl, hn, fun i r er => ?_⟩
  obtain ⟨a, t, e2, ra⟩ := hx i r er
  obtain ⟨t', ra', ht'⟩ := ra.off (g.at er) hd hh
  exact ⟨a, t', e2, ra'.upd hd ht'⟩
structure HFam (K : PySem.W.Frag) (C : Addr) : Prop where
  cl : RCl K C
  nt : NoAttr K C "told"
structure PartD where
  ad : List Str
  rs : List RowD
noncomputable def adS (ps : List PartD) : List Str := ps.map fun p => dotted p.ad
structure GoodP (p : PartD) : Prop where
  ad : GoodA p.ad
  rs : GoodRs p.rs
noncomputable def PartsAt (C : Nat → Addr) (H : Hp) (l : Addr) (ps : List PartD) : Prop := ∃ xs : List V, H l = some (.lst xs) ∧ xs.length = ps.length ∧ ∀ (i : Nat) p, ps[i]? = some p → ∃ a lr, xs[i]? = some (.ref a) ∧ PartAt C H a (dotted p.ad) lr p.rs
theorem PartsAt.same {C : Nat → Addr} {H H' : Hp} {l : Addr} {ps : List PartD} (h : PartsAt C H l ps) (s : Same H H') : PartsAt C H' l ps := by
  obtain ⟨xs, hl, hn, hx⟩ := h
  refine ⟨xs, s _ _ hl, hn, fun i r e => ?_⟩
  obtain ⟨a, t, e2, ra⟩ := hx i r e
  exact ⟨a, t, e2, ra.same s⟩
structure HouseOk (ps : List PartD) : Prop where
  hi : ps.length ≤ 12
  ok : ∀ p ∈ ps, GoodP p
  nd : (adS ps).Nodup
  up : ∀ p ∈ ps, p.ad.dropLast = [] ∨ dotted p.ad.dropLast ∈ adS ps
  cl : ∀ p ∈ ps, ∀ r ∈ p.rs, r.nm ≠ "" → dotted p.ad ++ "." ++ r.nm ∉ adS ps
theorem HouseOk.at {ps : List PartD} (g : HouseOk ps) {i : Nat} {p : PartD} (h : ps[i]? = some p) : GoodP p := g.ok p (List.mem_of_getElem? h)
noncomputable def HouseAt (C : Nat → Addr) (H : Hp) (h l : Addr) (ps : List PartD) : Prop := ∃ dx fs, H h = some (.ins (C 8) dx fs) ∧ fs.lookup ("told" : Str) = some (.ref l) ∧ fs.lookup ("addresses" : Str) = none ∧ fs.lookup ("has" : Str) = none ∧ fs.lookup ("part" : Str) = none ∧ PartsAt C H l ps
theorem HouseAt.same {C : Nat → Addr} {H H' : Hp} {h l : Addr} {ps : List PartD} (x : HouseAt C H h l ps) (s : Same H H') : HouseAt C H' h l ps := by
  obtain ⟨dx, fs, e, a1, a2, a3, a4, r⟩ := x
  exact ⟨dx, fs, s _ _ e, a1, a2, a3, a4, r.same s⟩
theorem PartAt.but {C : Nat → Addr} {H H' : Hp} {p l x D dx : Addr} {ad : Str} {rs : List RowD} (h : PartAt C H p ad l rs) (g : GoodRs rs) (hx : H x = some (.ins D dx [])) (s : SameBut x H H') : PartAt C H' p ad l rs := by
  obtain ⟨dy, fs, e, a1, a2, a3, a4, a5, xs, hl, hn, hxt⟩ := h
  have ne : p ≠ x := fun z => by
    rw [z, hx] at e
    cases e
    exact absurd a1 (by intro z; cases z)
  refine ⟨dy, fs, s _ _ e ne, a1, a2, a3, a4, a5, xs, s _ _ hl (ne_of hl hx (by intro z; cases z)), hn, fun i r er => ?_⟩
  obtain ⟨a, t, e2, ra⟩ := hxt i r er
  exact ⟨a, t, e2, ra.but (g.at er) hx s⟩
noncomputable def parS (ys : List Str) : Str := if ys.dropLast = [] then "" else dotted ys.dropLast
theorem dotted_one (b : Str) : dotted [b] = b := by rw [dotted_join]; rfl
theorem par_eq {ys : List Str} (g : GoodA ys) : (Txt.rpartition (dotted ys) ("." : Str)).1 = parS ys := by
  unfold parS
  obtain ⟨xs, b, rfl⟩ : ∃ xs b, ys = xs ++ [b] := ⟨ys.dropLast, ys.getLast g.lo, (List.dropLast_concat_getLast g.lo).symm⟩
  rw [List.dropLast_concat]
  have hb : IsNm b := g.nm b (by simp)
  by_cases h : xs = []
  · subst h
    rw [if_pos rfl, List.nil_append, dotted_one, rpart_one b hb]
    rfl
  · rw [if_neg h, rpart_more xs b h hb]
noncomputable def spParent : Sp := fun vs H Q _ => ∃ ys : List Str, vs = [.str (dotted ys)] ∧ GoodA ys ∧ Pur (.str (parS ys)) H Q
noncomputable def PartsX (C : Nat → Addr) (H : Hp) (xs : List V) (ps : List PartD) : Prop := xs.length = ps.length ∧ ∀ (i : Nat) p, ps[i]? = some p → ∃ a lr, xs[i]? = some (.ref a) ∧ PartAt C H a (dotted p.ad) lr p.rs
theorem PartsX.same {C : Nat → Addr} {H H' : Hp} {xs : List V} {ps : List PartD} (h : PartsX C H xs ps) (s : Same H H') : PartsX C H' xs ps := ⟨h.1, fun i p e => by
  obtain ⟨a, lr, e2, pa⟩ := h.2 i p e
  exact ⟨a, lr, e2, pa.same s⟩⟩
noncomputable def HouseHd (C : Nat → Addr) (H : Hp) (h l : Addr) : Prop := ∃ dx fs, H h = some (.ins (C 8) dx fs) ∧ fs.lookup ("told" : Str) = some (.ref l) ∧ fs.lookup ("addresses" : Str) = none ∧ fs.lookup ("has" : Str) = none ∧ fs.lookup ("part" : Str) = none
theorem houseAt_of {C : Nat → Addr} {H : Hp} {h l : Addr} {xs : List V} {ps : List PartD} (hd : HouseHd C H h l) (hl : H l = some (.lst xs)) (px : PartsX C H xs ps) : HouseAt C H h l ps := by
  obtain ⟨dx, fs, e, a1, a2, a3, a4⟩ := hd
  exact ⟨dx, fs, e, a1, a2, a3, a4, xs, hl, px.1, px.2⟩
theorem HouseHd.same {C : Nat → Addr} {H H' : Hp} {h l : Addr} (x : HouseHd C H h l) (s : Same H H') : HouseHd C H' h l := by
  obtain ⟨dx, fs, e, a⟩ := x
  exact ⟨dx, fs, s _ _ e, a⟩
noncomputable def spHAddr (C : Nat → Addr) : Sp := fun vs H Q _ => ∃ (h l : Addr) (ps : List PartD), vs = [.ref h] ∧ HouseAt C H h l ps ∧ HouseOk ps ∧ ∀ b H' zs, H b = none → Same H H' → zs.Perm (adS ps) → sortedS zs = true → H' b = some (.lst (zs.map V.str)) → Q (.ref b) H'
theorem ad_at {ps : List PartD} {i : Nat} (hi : i < ps.length) : ((adS ps).map V.str).getD i .non = V.str (dotted ps[i].ad) := by simp [adS, List.getD, hi]
theorem ad_list {ps : List PartD} {n : Nat} (hn : n = ps.length) : (List.range n).map (fun i => ((adS ps).map V.str).getD i .non) = (adS ps).map V.str := by
  apply List.ext_getElem
  · simp [adS, hn]
  · intro i h1 h2
    have : i < ps.length := by simpa [adS] using h2
    simp [adS, this]
theorem fitA {a b : Str} (ha : a.length ≤ 1000) (hb : b.length ≤ 6000) : (a ++ b).length ≤ sizeLine := by
  rw [appLen, sizeLine_eq]; omega
theorem call_instXK {X : Cx} {K : PySem.W.Frag} (h : X.K = K) : CallR X (.builtin "isinstance") (rInstX K) := by subst h; exact call_instX
theorem pe_xfldK {X : Cx} {K : PySem.W.Frag} {e : Expr} {f : Str} {pos : Pos} {ta : TE} (h : X.K = K) (he : PE X e ta) (hb : attributeBase e f X.env (eval e X.env) = eval e X.env) : PE X (.Attribute e f pos) (tXFld K ta f) := by subst h; exact pe_xfld he hb
noncomputable def lt1 (b : Int) : Str := ⟨#[97 + b.toNat]⟩
theorem lts_of {xs : List V} (h : ∀ (i : Nat) v, xs[i]? = some v → ∃ b : Int, v = V.str (lt1 b) ∧ 0 ≤ b ∧ b < 26) : ∃ bs : List Int, bs.length = xs.length ∧ xs = (bs.map lt1).map V.str ∧ In26 bs := by
  obtain ⟨bs, hl, hb⟩ := choose_list (fun _ v b => v = V.str (lt1 b) ∧ 0 ≤ b ∧ b < 26) xs 0 (fun i v e => h i v e)
  have em : xs = (bs.map lt1).map V.str := by
    apply List.ext_getElem?
    intro i
    rw [List.getElem?_map, List.getElem?_map]
    cases e : xs[i]? with
    | none =>
      have e2 : bs[i]? = none := by
        rw [List.getElem?_eq_none_iff] at e ⊢
        omega
      rw [e2]; rfl
    | some v =>
      obtain ⟨z, ez, rfl, _⟩ := hb i v e
      rw [ez]; rfl
  refine ⟨bs, hl, em, fun b hb' => ?_⟩
  obtain ⟨i, hi, e⟩ := List.getElem_of_mem hb'
  obtain ⟨z, ez, _, nz⟩ := hb i _ (List.getElem?_eq_getElem (by omega))
  rw [List.getElem?_eq_getElem hi, e] at ez
  cases ez
  exact nz
theorem cut_strs (zs : List Str) {k : Int} (h : 0 ≤ k) : cutV (zs.map V.str) none (some k) = (zs.take k.toNat).map V.str := by
  have e := cut_to (zs.map V.str) k.toNat
  rw [show ((k.toNat : Nat) : Int) = k from by omega] at e
  rw [e, List.map_take]
theorem cut_mid (zs : List Str) {a b : Int} (h0 : 0 ≤ a) (h1 : 0 ≤ b) (ha : a.toNat ≤ zs.length) (hb : b.toNat ≤ zs.length) : cutV (zs.map V.str) (some a) (some b) = ((zs.drop a.toNat).take (b.toNat - a.toNat)).map V.str := by
  unfold cutV
  have e1 := HT.sIx_nat (zs.map V.str).length 0 a.toNat
  have e2 := HT.sIx_nat (zs.map V.str).length (zs.map V.str).length b.toNat
  rw [show ((a.toNat : Nat) : Int) = a from by omega] at e1
  rw [show ((b.toNat : Nat) : Int) = b from by omega] at e2
  rw [e1, e2, List.length_map, Nat.min_eq_left ha, Nat.min_eq_left hb, List.map_take, List.map_drop]
theorem wd_joinL (ks : List Int) : Txt.join ("" : Str) (ks.map lt1) = wdOf ks := wd_join ks
theorem lt_bound {ks : List Int} (h : ks.length ≤ 8) : ((ks.map lt1).map (·.length)).sum + (ks.map lt1).length * (("" : Str)).length ≤ 16777216 := word_bound h
theorem wd_mid {as bs : List Int} {c : Int} (ha : In26 as) (hb : In26 bs) (h0 : 0 ≤ c) (h1 : c < 26) (h8 : as.length + 1 + bs.length ≤ 8) : IsNm (wdOf as ++ lt1 c ++ wdOf bs) := by
  have e : wdOf as ++ lt1 c ++ wdOf bs = wdOf (as ++ [c] ++ bs) := by
    apply strExt
    rw [strApp, strApp, wd_codes, wd_codes, wd_codes]
    simp [lt1]
  rw [e]
  refine wd_nm (by simp; omega) (by simp; omega) fun k hk => ?_
  simp only [List.mem_append, List.mem_singleton] at hk
  rcases hk with (hk | rfl) | hk
  · exact ha k hk
  · exact ⟨h0, h1⟩
  · exact hb k hk
noncomputable def ownW : List Str := ["let", "be", "draw", "as", "part", "from", "late", "a"]
theorem ownW_nm : ∀ z ∈ ownW, IsNm z := fun z hz => by
  simp only [ownW, List.mem_cons, List.not_mem_nil, or_false] at hz
  rcases hz with rfl | rfl | rfl | rfl | rfl | rfl | rfl | rfl
  all_goals exact isNm_of (by decide +kernel)
noncomputable def spWords : Sp := fun vs H Q _ => ∃ c : Int, vs = [.int c] ∧ ∀ l H' (ws : List Str), H l = none → Same H H' → ws.length = 8 → (∀ w ∈ ws, IsNm w) → H' l = some (.lst (ws.map V.str)) → Q (.ref l) H'
theorem kind_dot (x : Str) : ¬ (Builtin.Str.strKind x < Builtin.Str.strKind ("." : Str)) := by
  have e : Builtin.Str.strKind ("." : Str) = 1 := by decide +kernel
  rw [e]
  unfold Builtin.Str.strKind
  split
  · decide
  · split <;> decide
theorem cnt_ad {ys : List Str} (g : GoodA ys) : Txt.count (dotted ys) ("." : Str) = (ys.length : Int) - 1 := by
  have hs := dotted_split ys g.lo g.nm
  have h1 : 1 ≤ (dotted ys).length := by
    obtain ⟨y, hy⟩ := List.exists_mem_of_ne_nil ys g.lo
    obtain ⟨c, hc, _⟩ := dotted_letter g.lo g.nm
    have := List.length_pos_of_mem hc
    rw [Array.length_toList] at this
    exact this
  have hl := congrArg List.length hs
  unfold Txt.split at hl
  have hd : (("." : Str)).length = 1 := by decide +kernel
  rw [if_neg (by rw [hd, decide_eq_false (by omega), decide_eq_false (kind_dot _)]; decide)] at hl
  unfold Txt.count
  by_cases he : (Builtin.Str.occurrences (dotted ys) "." 0 (dotted ys).length ((dotted ys).length + 1)).isEmpty = true
  · rw [if_pos he] at hl
    have hl : 1 = ys.length := hl
    rw [List.isEmpty_iff.mp he, ← hl]
    rfl
  · rw [if_neg he, length_partsBetween] at hl
    omega
theorem dotted_snoc {p : List Str} {w : Str} (h : p ≠ []) : dotted p ++ "." ++ w = dotted (p ++ [w]) := by
  rw [dotted_join, dotted_join, dot_eq, join_snoc _ _ _ h]
theorem dotted_ne {a : List Str} (g : GoodA a) : dotted a ≠ "" := fun e => by
  obtain ⟨c, hc, _⟩ := dotted_letter g.lo g.nm
  have e0 : ("" : Str).cps.toList = [] := by decide +kernel
  rw [e, e0] at hc
  cases hc
structure GoodAs (as : List (List Str)) : Prop where
  hi : as.length ≤ 12
  ok : ∀ a ∈ as, GoodA a
  nd : (as.map dotted).Nodup
  up : ∀ a ∈ as, a.dropLast = [] ∨ a.dropLast ∈ as
theorem GoodAs.snoc {as : List (List Str)} {a : List Str} (g : GoodAs as) (h : as.length < 12) (ga : GoodA a) (hn : dotted a ∉ as.map dotted) (hu : a.dropLast = [] ∨ a.dropLast ∈ as) : GoodAs (as ++ [a]) := by
  refine ⟨by rw [List.length_append]; show as.length + 1 ≤ 12; omega, fun b hb => ?_, ?_, fun b hb => ?_⟩
  · rcases List.mem_append.mp hb with hb | hb
    · exact g.ok b hb
    · rw [List.mem_singleton.mp hb]; exact ga
  · rw [List.map_append]
    exact snoc_nd g.nd hn
  · rcases List.mem_append.mp hb with hb | hb
    · exact (g.up b hb).imp id (List.mem_append_left _)
    · rw [List.mem_singleton.mp hb]
      exact hu.imp id (List.mem_append_left _)
theorem GoodAs.rev {as : List (List Str)} (g : GoodAs as) : GoodAs as.reverse := by
  refine ⟨by rw [List.length_reverse]; exact g.hi, fun b hb => g.ok b (List.mem_reverse.mp hb), ?_, fun b hb => (g.up b (List.mem_reverse.mp hb)).imp id List.mem_reverse.mpr⟩
  rw [List.map_reverse]
  exact List.pairwise_reverse.mpr (List.Pairwise.imp (fun h => Ne.symm h) g.nd)
theorem at_pick {zs : List Str} {c k : Int} (h : zs ≠ []) : ∃ z ∈ zs, atI (zs.map V.str) (pick c k zs.length) = some (V.str z) := by
  have hl : 0 < (zs.length : Int) := by have := List.length_pos_iff.mpr h; omega
  have h1 := pick_ge c k hl
  have h2 := pick_lt c k hl
  have h3 : (pick c k zs.length).toNat < zs.length := by omega
  refine ⟨zs[(pick c k zs.length).toNat], List.getElem_mem h3, ?_⟩
  have := atI_nat (xs := zs.map V.str) (j := (pick c k zs.length).toNat) (v := V.str zs[(pick c k zs.length).toNat]) (by rw [List.getElem?_map, List.getElem?_eq_getElem h3]; rfl)
  rwa [show (((pick c k zs.length).toNat : Nat) : Int) = pick c k zs.length from by omega] at this
noncomputable def shortV (v : V) : Bool := match v with | .str z => decide (Txt.count z "." < 2) | _ => false
theorem filt_strs (zs : List Str) (p : V → Bool) : (zs.map V.str).filter p = (zs.filter fun z => p (.str z)).map V.str := by rw [List.filter_map]; rfl
theorem nm_a : IsNm ("a" : Str) := isNm_of (by decide +kernel)
theorem good1 {w : Str} (h : IsNm w) : GoodA [w] := ⟨by simp, (by show 1 ≤ 3; decide), fun y hy => by rw [List.mem_singleton.mp hy]; exact h⟩
structure G4 (so : Nat) (nm ad wd : Str) : Prop where
  h5 : so ≤ 5
  hn : so < 5 → IsNm nm
  h0 : so = 5 → nm = ""
  ha : (ad = "" ∧ so = 5) ∨ ∃ ys, GoodA ys ∧ ad = dotted ys ∧ IsNm wd
theorem ts_num : GoodTs [⟨1, .num 1⟩] := ⟨by simp, by decide, (fun t ht => by rw [List.mem_singleton.mp ht]; exact ⟨.inl rfl, (by show 1 < 10 ^ 20; decide)⟩), fun t ht => by cases ht; rfl⟩
theorem dot_in {z : Str} (h : (!(Builtin.Str.occurrences z ("." : Str) 0 z.length 1).isEmpty) = true) : 46 ∈ z.cps.toList := by
  have hne : Builtin.Str.occurrences z ("." : Str) 0 z.length 1 ≠ [] := fun e => by rw [e] at h; cases h
  obtain ⟨i, hi⟩ := List.exists_mem_of_ne_nil _ hne
  obtain ⟨h1, h2⟩ := StrLaws.occ_spec _ _ _ _ _ _ hi
  rw [dot_eq] at h1 h2
  exact List.mem_of_getElem? ((at_iff z 46 i).mp ⟨h1, h2⟩)
theorem at_last {xs : List Str} {b : Str} : atI ((xs ++ [b]).map V.str) (-1) = some (V.str b) := by
  unfold atI ixN
  rw [if_neg (by decide), if_pos (by simp; omega)]
  simp only [List.length_map, List.length_append, List.length_singleton, Option.bind_some, List.map_append]
  rw [show (-1 + ((xs.length + 1 : Nat) : Int)).toNat = xs.length from by omega, List.getElem?_append_right (by simp)]
  simp
theorem rise_pw : ∀ (p : Str) (l : List Str), risingS p l = true → (p :: l).Pairwise fun a b => a.cps.toList ≤ b.cps.toList
  | p, [], _ => by simp
  | p, x :: r, h => by
    have h : (!ltCps x.cps.toList p.cps.toList && risingS x r) = true := h
    rw [Bool.and_eq_true] at h
    have h1 : ¬ (x.cps.toList < p.cps.toList) := by
      have := h.1
      rw [ltCps_eq] at this
      simpa using this
    have ih := rise_pw x r h.2
    have hpx : p.cps.toList ≤ x.cps.toList := List.not_lt.mp h1
    refine List.Pairwise.cons (fun c hc => ?_) ih
    rcases List.mem_cons.mp hc with rfl | hc
    · exact hpx
    · exact List.le_trans hpx ((List.pairwise_cons.mp ih).1 c hc)
theorem sort_pw : ∀ {l : List Str}, sortedS l = true → l.Pairwise fun a b => a.cps.toList ≤ b.cps.toList
  | [], _ => .nil
  | x :: r, h => rise_pw x r h
theorem sorted_one {a b : List Str} (p : a.Perm b) (ha : sortedS a = true) (hb : sortedS b = true) : a = b :=
  List.Perm.eq_of_pairwise (fun a b _ _ h1 h2 => strExt (List.le_antisymm h1 h2)) (sort_pw ha) (sort_pw hb) p
theorem strs_flat (zs : List Str) : ∀ v ∈ zs.map V.str, flatV v = true ∨ ∃ p, v = .ref p := fun v hv => by
  obtain ⟨z, _, rfl⟩ := List.mem_map.mp hv
  exact .inl rfl
theorem Room.u1 {k : Nat} {A : Around} (r : Room k A) : A.units + 1 < cLine := by have := r.units; omega
structure Q4 where
  so : Nat
  nm : Str
  ad : Str
  wd : Str
noncomputable def TupAt (H : Hp) (p : Addr) (d : Q4) : Prop := H p = some (.tup [.str (sortW d.so), .str d.nm, .str d.ad, .str d.wd])
noncomputable def TupsAt (H : Hp) (l : Addr) (ds : List Q4) : Prop := ∃ xs : List V, H l = some (.lst xs) ∧ xs.length = ds.length ∧ ∀ (i : Nat) d, ds[i]? = some d → ∃ p, xs[i]? = some (.ref p) ∧ TupAt H p d
theorem TupsAt.same {H H' : Hp} {l : Addr} {ds : List Q4} (h : TupsAt H l ds) (s : Same H H') : TupsAt H' l ds := by
  obtain ⟨xs, hl, hn, hx⟩ := h
  exact ⟨xs, s _ _ hl, hn, fun i d e => by obtain ⟨p, e2, t⟩ := hx i d e; exact ⟨p, e2, s _ _ t⟩⟩
theorem TupsAt.off {H : Hp} {l b : Addr} {ds : List Q4} {o : HO} (h : TupsAt H l ds) (hl : l ≠ b) (hb : ∀ ys, H b ≠ some (.tup ys)) : TupsAt (upd H b o) l ds := by
  obtain ⟨xs, hx, hn, ht⟩ := h
  refine ⟨xs, by rw [upd_ne hl]; exact hx, hn, fun i d e => ?_⟩
  obtain ⟨p, e2, t⟩ := ht i d e
  exact ⟨p, e2, by unfold TupAt; rw [upd_ne (fun z => hb _ (z ▸ t))]; exact t⟩
structure DictAt (H0 H : Hp) (R : Addr) (as : List (List Str)) (n : Nat) (L : Nat → Addr) (rs : Nat → List Q4) : Prop where
  r0 : H0 R = none
  l0 : ∀ i, i < n → H0 (L i) = none
  dk : ∃ kvs : List (Key × V), H R = some (.dK kvs) ∧ kvs.length ≤ n ∧ ∀ (i : Nat) a, i < n → as[i]? = some a → valV kvs (.inr (dotted a)) = some (.ref (L i))
  ts : ∀ i, i < n → TupsAt H (L i) (rs i)
  ap : ∀ i j, i < n → j < n → L i = L j → i = j
structure RowsOk (as : List (List Str)) (rs : Nat → List Q4) : Prop where
  hi : ∀ i, i < as.length → (rs i).length ≤ 12
  g4 : ∀ i, i < as.length → ∀ d ∈ rs i, G4 d.so d.nm d.ad d.wd
  cl : ∀ (i : Nat) a, as[i]? = some a → ∀ d ∈ rs i, d.so < 5 → dotted a ++ "." ++ d.nm ∉ as.map dotted
theorem ad_ne {as : List (List Str)} (nd : (as.map dotted).Nodup) {i j : Nat} {a b : List Str} (ha : as[i]? = some a) (hb : as[j]? = some b) (h : i ≠ j) : dotted a ≠ dotted b := fun e => by
  have e1 : (as.map dotted)[i]? = some (dotted a) := by rw [List.getElem?_map, ha]; rfl
  have e2 : (as.map dotted)[j]? = some (dotted b) := by rw [List.getElem?_map, hb]; rfl
  exact h ((List.getElem?_inj (List.getElem?_eq_some_iff.mp e1).1 nd).mp (by rw [e1, e2, e]))
theorem DictAt.same {H0 H H' : Hp} {R : Addr} {as : List (List Str)} {n : Nat} {L : Nat → Addr} {rs : Nat → List Q4} (h : DictAt H0 H R as n L rs) (s : Same H H') : DictAt H0 H' R as n L rs := by
  obtain ⟨a, b, ⟨kvs, c, d⟩, e, f⟩ := h
  exact ⟨a, b, ⟨kvs, s _ _ c, d⟩, fun i hi => (e i hi).same s, f⟩
theorem DictAt.more {H0 H : Hp} {R b : Addr} {as : List (List Str)} {n : Nat} {L : Nat → Addr} {rs : Nat → List Q4} {a : List Str} (nd : (as.map dotted).Nodup) (h : DictAt H0 H R as n L rs) (s : Same H0 H) (hb : H b = none) (ha : as[n]? = some a) :
    ∀ kvs, H R = some (.dK kvs) → kvs.length ≤ n ∧ DictAt H0 (upd (upd H b (.lst [])) R (.dK (putK kvs (.inr (dotted a)) (.ref b)))) R as (n + 1) (fun i => if i = n then b else L i) (fun i => if i = n then [] else rs i) := by
  intro kvs hk
  obtain ⟨r0, l0, ⟨kvs', hk', hl, hv⟩, ts, ap⟩ := h
  rw [hk] at hk'
  cases hk'
  have hbR : R ≠ b := ne_of_none hk hb
  have hLb : ∀ i, i < n → L i ≠ b := fun i hi => by obtain ⟨xs, hx, _⟩ := ts i hi; exact ne_of_none hx hb
  refine ⟨hl, r0, fun i hi => ?_, ⟨_, upd_same, Nat.le_trans (length_putK _ _ _) (Nat.succ_le_succ hl), fun i c hi hc => ?_⟩, fun i hi => ?_, fun i j hi hj e => ?_⟩
  · by_cases k : i = n
    · rw [if_pos k]; exact s.free hb
    · rw [if_neg k]; exact l0 i (by omega)
  · rw [valV_put]
    by_cases k : i = n
    · subst k
      rw [ha] at hc
      cases hc
      rw [if_pos rfl, if_pos rfl]
    · rw [if_neg k, if_neg (fun z => ad_ne nd hc ha k (Sum.inr.inj z))]
      exact hv i c (by omega) hc
  · by_cases k : i = n
    · subst k
      simp only [if_true]
      refine ⟨[], by rw [upd_ne hbR.symm]; exact upd_same, rfl, fun i d e => by simp at e⟩
    · simp only [if_neg k]
      obtain ⟨xs, hx, hn, ht⟩ := ts i (by omega)
      have hR : L i ≠ R := fun z => by rw [z, hk] at hx; cases hx
      exact (TupsAt.off (H := H) ⟨xs, hx, hn, ht⟩ (hLb i (by omega)) (fun ys => by rw [hb]; intro z; cases z)).off hR (fun ys => by rw [upd_ne hbR, hk]; intro z; cases z)
  · by_cases k : i = n
    · by_cases m : j = n
      · omega
      · simp only [if_pos k, if_neg m] at e
        exact absurd e.symm (hLb j (by omega))
    · by_cases m : j = n
      · simp only [if_neg k, if_pos m] at e
        exact absurd e (hLb i (by omega))
      · simp only [if_neg k, if_neg m] at e
        exact ap i j (by omega) (by omega) e
theorem DictAt.row {H0 H : Hp} {R p : Addr} {as : List (List Str)} {n i : Nat} {L : Nat → Addr} {rs : Nat → List Q4} {d : Q4} (h : DictAt H0 H R as n L rs) (hi : i < n) (hp : TupAt H p d) :
    ∀ xs, H (L i) = some (.lst xs) → DictAt H0 (upd H (L i) (.lst (xs ++ [.ref p]))) R as n L (fun j => if j = i then rs i ++ [d] else rs j) := by
  intro xs hx
  obtain ⟨r0, l0, ⟨kvs, hk, hl, hv⟩, ts, ap⟩ := h
  have hRi : R ≠ L i := fun z => by rw [z, hx] at hk; cases hk
  have hT : ∀ ys, H (L i) ≠ some (.tup ys) := fun ys => by rw [hx]; intro z; cases z
  refine ⟨r0, l0, ⟨kvs, by rw [upd_ne hRi]; exact hk, hl, hv⟩, fun j hj => ?_, ap⟩
  by_cases k : j = i
  · subst k
    simp only [if_true]
    obtain ⟨ys, hy, hn, ht⟩ := ts j hj
    rw [hx] at hy
    cases hy
    refine ⟨_, upd_same, by rw [List.length_append, List.length_append, hn]; rfl, fun m e hm => ?_⟩
    have off : ∀ q e, TupAt H q e → TupAt (upd H (L j) (.lst (xs ++ [.ref p]))) q e := fun q e t => by unfold TupAt; rw [upd_ne (fun z => hT _ (z ▸ t))]; exact t
    rcases Nat.lt_or_ge m (rs j).length with z | z
    · rw [List.getElem?_append_left z] at hm
      obtain ⟨q, e2, t⟩ := ht m e hm
      exact ⟨q, by rw [List.getElem?_append_left (by omega)]; exact e2, off q e t⟩
    · rw [List.getElem?_append_right z] at hm
      have hm0 : m - (rs j).length = 0 := by
        have := (List.getElem?_eq_some_iff.mp hm).1
        simp at this
        omega
      rw [hm0] at hm
      cases hm
      exact ⟨p, by rw [List.getElem?_append_right (by omega), hn, hm0]; rfl, off p d hp⟩
  · simp only [if_neg k]
    exact (ts j hj).off (fun z => k (ap j i hj hi z)) hT
theorem RowsOk.row {as : List (List Str)} {rs : Nat → List Q4} {i : Nat} {a : List Str} {d : Q4} (h : RowsOk as rs) (hi : as[i]? = some a) (hl : (rs i).length < 12) (g : G4 d.so d.nm d.ad d.wd) (hc : d.so < 5 → dotted a ++ "." ++ d.nm ∉ as.map dotted) : RowsOk as (fun j => if j = i then rs i ++ [d] else rs j) := by
  refine ⟨fun j hj => ?_, fun j hj e he => ?_, fun j b hb e he h5 => ?_⟩
  · by_cases k : j = i
    · simp only [if_pos k, List.length_append]
      show (rs i).length + 1 ≤ 12
      omega
    · simp only [if_neg k]
      exact h.hi j hj
  · by_cases k : j = i
    · subst k
      simp only [if_true] at he
      rcases List.mem_append.mp he with he | he
      · exact h.g4 j hj e he
      · rw [List.mem_singleton.mp he]; exact g
    · simp only [if_neg k] at he
      exact h.g4 j hj e he
  · by_cases k : j = i
    · subst k
      rw [hi] at hb
      cases hb
      simp only [if_true] at he
      rcases List.mem_append.mp he with he | he
      · exact h.cl j a hi e he h5
      · rw [List.mem_singleton.mp he] at h5 ⊢; exact hc h5
    · simp only [if_neg k] at he
      exact h.cl j b hb e he h5
theorem DictAt.get {H0 H H' : Hp} {R : Addr} {as : List (List Str)} {n i : Nat} {L : Nat → Addr} {rs : Nat → List Q4} {a : List Str} (h : DictAt H0 H R as n L rs) (hi : i < n) (ha : as[i]? = some a) (s : Same H H') : DGet H' R (V.str (dotted a)) (some (.ref (L i))) := by
  obtain ⟨kvs, hk, _, hv⟩ := h.dk
  have := DGet.k (k := .inr (dotted a)) (s _ _ hk)
  rw [hv i a hi ha] at this
  exact this
theorem in_dec (y : Str) (zs : List Str) : inV (.str y) (zs.map V.str) = decide (y ∈ zs) := by
  by_cases h : y ∈ zs
  · rw [decide_eq_true h]; exact inV_of (List.mem_map.mpr ⟨y, h, rfl⟩)
  · rw [decide_eq_false h]
    exact inV_no fun v hv => by
      obtain ⟨z, hz, rfl⟩ := List.mem_map.mp hv
      exact ⟨z, rfl, fun e => h (e ▸ hz)⟩
structure RFam1 (K : PySem.W.Frag) (C : Nat → Addr) : Prop where
  c : ∀ i, i = 0 → RCl K (C i)
  nn : ∀ i, i = 0 → NoAttr K (C i) "name"
  nt : ∀ i, i = 0 → NoAttr K (C i) "terms"
structure XFam (K : PySem.W.Frag) (C : Nat → Addr) : Prop where
  x : ∀ i, 22 ≤ i → i ≤ 25 → ClsX K (C i)
  s : ∀ i, 22 ≤ i → i ≤ 25 → Sub K (C i) (C 20)
  a : ∀ i, 22 ≤ i → i ≤ 25 → NoAttr K (C i) "at"
  k : ∀ i j, 22 ≤ i → i ≤ 25 → 22 ≤ j → j ≤ 25 → PySem.W.kitOne K (.ref (C i)) (.ref (C j)) = some (decide (i = j))
  v : ∀ i, 22 ≤ i → i ≤ 25 → PySem.W.kitOne K (.ref (C i)) (.type "ValueError") = some true
  t : ∀ i, 22 ≤ i → i ≤ 25 → PySem.W.kitAny K (.ref (C i)) ([C 26, C 27, C 28, C 21, C 29, C 30].map Value.ref) = some false
structure GoodAt (as : List (List Str)) : Prop where
  hi : as.length ≤ 14
  ok : ∀ a ∈ as, GoodA a
  nd : (as.map dotted).Nodup
  up : ∀ a ∈ as, a.dropLast = [] ∨ a.dropLast ∈ as
theorem GoodAt.snoc {as : List (List Str)} {a : List Str} (g : GoodAt as) (h : as.length < 14) (ga : GoodA a) (hn : dotted a ∉ as.map dotted) (hu : a.dropLast = [] ∨ a.dropLast ∈ as) : GoodAt (as ++ [a]) := by
  refine ⟨by rw [List.length_append]; show as.length + 1 ≤ 14; omega, fun b hb => ?_, ?_, fun b hb => ?_⟩
  · rcases List.mem_append.mp hb with hb | hb
    · exact g.ok b hb
    · rw [List.mem_singleton.mp hb]; exact ga
  · rw [List.map_append]
    exact snoc_nd g.nd hn
  · rcases List.mem_append.mp hb with hb | hb
    · exact (g.up b hb).imp id (List.mem_append_left _)
    · rw [List.mem_singleton.mp hb]
      exact hu.imp id (List.mem_append_left _)
theorem GoodAt.rev {as : List (List Str)} (g : GoodAt as) : GoodAt as.reverse := by
  refine ⟨by rw [List.length_reverse]; exact g.hi, fun b hb => g.ok b (List.mem_reverse.mp hb), ?_, fun b hb => (g.up b (List.mem_reverse.mp hb)).imp id List.mem_reverse.mpr⟩
  rw [List.map_reverse]
  exact List.pairwise_reverse.mpr (List.Pairwise.imp (fun h => Ne.symm h) g.nd)
noncomputable def spAdrs2 : Sp := fun vs H Q _ => ∃ (c n : Int) (lw : Addr) (ws : List Str), vs = [.int c, .int n, .ref lw] ∧ 1 ≤ n ∧ n ≤ 14 ∧ H lw = some (.lst (ws.map V.str)) ∧ ws.length = 8 ∧ (∀ w ∈ ws, IsNm w) ∧
  ∀ l H' (as : List (List Str)), H l = none → Same H H' → as ≠ [] → GoodAt as → H' l = some (.lst ((as.map dotted).map V.str)) → Q (.ref l) H'
theorem short_of2 {as : List (List Str)} (g : GoodAt as) {v : V} (h : v ∈ ((as.map dotted).map V.str).filter shortV) : ∃ a ∈ as, v = .str (dotted a) ∧ a.length ≤ 2 := by
  obtain ⟨h1, h2⟩ := List.mem_filter.mp h
  obtain ⟨z, hz, rfl⟩ := List.mem_map.mp h1
  obtain ⟨a, ha, rfl⟩ := List.mem_map.mp hz
  have h3 : Txt.count (dotted a) "." < 2 := of_decide_eq_true h2
  rw [cnt_ad (g.ok a ha)] at h3
  exact ⟨a, ha, rfl, by omega⟩
noncomputable def spIniI (C : Addr) : Sp := fun vs H Q _ => ∃ (x : Addr) (n : Int), vs = [.ref x, .int n] ∧ H x = some (ExO true x C none) ∧ n.natAbs.log2 < 1920 ∧ ∀ p, H p = none → p ≠ x → Q .non (upd (upd H p (XdO p [("at", .int n)])) x (ExO true x C (some p)))
noncomputable def spBound1 (C : Nat → Addr) : Sp := fun vs H Q _ => ∃ (p : Addr) (ad : Str) (l : Addr) (rs : List RowD), vs = [.ref p] ∧ PartAt C H p ad l rs ∧ GoodRs rs ∧ (∀ r ∈ rs, r.so = 0) ∧ ∀ b H', H b = none → Same H H' → H' b = some (.lst (namesV rs)) → Q (.ref b) H'
structure D2 where
  ad : List Str
  ns : List Str
noncomputable def letR (n : Str) : RowD := ⟨0, n, "a", "a", [⟨1, .num 1⟩]⟩
noncomputable def partD (d : D2) : PartD := ⟨d.ad, d.ns.map letR⟩
structure G2 (m : Nat) (d : D2) : Prop where
  ad : GoodA d.ad
  hi : d.ns.length ≤ m
  nm : ∀ n ∈ d.ns, IsNm n
theorem letR_ok {n : Str} (h : IsNm n) : GoodR (letR n) := ⟨Nat.zero_le _, fun _ => h, fun z => absurd z (by show ¬ (0 : Nat) = 5; decide), ⟨["a"], good1 nm_a, (dotted_one _).symm⟩, nm_a, ts_num, fun z => absurd z (by show ¬ (0 : Nat) = 1; decide)⟩
theorem G2.rs {m : Nat} {d : D2} (g : G2 m d) (h : m ≤ 12) : GoodRs (d.ns.map letR) := ⟨by rw [List.length_map]; exact Nat.le_trans g.hi h, fun r hr => by obtain ⟨n, hn, rfl⟩ := List.mem_map.mp hr; exact letR_ok (g.nm n hn)⟩
theorem lets_of (ns : List Str) : ∀ r ∈ ns.map letR, r.so = 0 := fun r hr => by obtain ⟨n, _, rfl⟩ := List.mem_map.mp hr; rfl
noncomputable abbrev adsOf (ds : List D2) : List Str := ds.map fun d => dotted d.ad
theorem adS_parts (ds : List D2) : adS (ds.map partD) = adsOf ds := by unfold adS adsOf; rw [List.map_map]; rfl
theorem names_let {ns : List Str} (h : ∀ n ∈ ns, IsNm n) : namesV (ns.map letR) = ns.map V.str := by
  unfold namesV
  rw [List.map_map, List.filter_eq_self.mpr]
  · rfl
  · intro v hv
    obtain ⟨n, hn, rfl⟩ := List.mem_map.mp hv
    unfold isE
    rw [decide_eq_false fun z => ?_]
    · rfl
    · have := (h n hn).lo
      have e : n = "" := V.str.inj z
      rw [e] at this
      exact absurd this (by decide +kernel)
noncomputable def dueAt (kn : List Str) (i : Nat) (d : D2) : Nat := if 12 ≤ i then 1 else if dotted d.ad ∈ kn.take i then 2 else if d.ad.dropLast ≠ [] ∧ dotted d.ad.dropLast ∉ kn then 3 else if ∃ n ∈ d.ns, dotted d.ad ++ "." ++ n ∈ kn then 4 else 0
theorem due1 {kn : List Str} {i : Nat} {d : D2} (h : 12 ≤ i) : dueAt kn i d = 1 := if_pos h
theorem due2 {kn : List Str} {i : Nat} {d : D2} (h : ¬ 12 ≤ i) (h2 : dotted d.ad ∈ kn.take i) : dueAt kn i d = 2 := by unfold dueAt; rw [if_neg h, if_pos h2]
theorem due3 {kn : List Str} {i : Nat} {d : D2} (h : ¬ 12 ≤ i) (h2 : ¬ dotted d.ad ∈ kn.take i) (h3 : d.ad.dropLast ≠ [] ∧ dotted d.ad.dropLast ∉ kn) : dueAt kn i d = 3 := by unfold dueAt; rw [if_neg h, if_neg h2, if_pos h3]
theorem due4 {kn : List Str} {i : Nat} {d : D2} (h : ¬ 12 ≤ i) (h2 : ¬ dotted d.ad ∈ kn.take i) (h3 : ¬ (d.ad.dropLast ≠ [] ∧ dotted d.ad.dropLast ∉ kn)) (h4 : ∃ n ∈ d.ns, dotted d.ad ++ "." ++ n ∈ kn) : dueAt kn i d = 4 := by unfold dueAt; rw [if_neg h, if_neg h2, if_neg h3, if_pos h4]
theorem due0 {kn : List Str} {i : Nat} {d : D2} (h : ¬ 12 ≤ i) (h2 : ¬ dotted d.ad ∈ kn.take i) (h3 : ¬ (d.ad.dropLast ≠ [] ∧ dotted d.ad.dropLast ∉ kn)) (h4 : ¬ ∃ n ∈ d.ns, dotted d.ad ++ "." ++ n ∈ kn) : dueAt kn i d = 0 := by unfold dueAt; rw [if_neg h, if_neg h2, if_neg h3, if_neg h4]
theorem due0_of {kn : List Str} {i : Nat} {d : D2} (e : dueAt kn i d = 0) : ¬ 12 ≤ i ∧ ¬ dotted d.ad ∈ kn.take i ∧ ¬ (d.ad.dropLast ≠ [] ∧ dotted d.ad.dropLast ∉ kn) ∧ ¬ ∃ n ∈ d.ns, dotted d.ad ++ "." ++ n ∈ kn := by
  refine ⟨fun h => ?_, ?_⟩
  · rw [due1 h] at e; cases e
  · have h1 : ¬ 12 ≤ i := fun h => by rw [due1 h] at e; cases e
    refine ⟨(fun h => by rw [due2 h1 h] at e; cases e), ?_⟩
    have h2 : ¬ dotted d.ad ∈ kn.take i := fun h => by rw [due2 h1 h] at e; cases e
    refine ⟨(fun h => by rw [due3 h1 h2 h] at e; cases e), fun h => ?_⟩
    have h3 : ¬ (d.ad.dropLast ≠ [] ∧ dotted d.ad.dropLast ∉ kn) := fun h => by rw [due3 h1 h2 h] at e; cases e
    rw [due4 h1 h2 h3 h] at e
    cases e
noncomputable def DueIs (ds : List D2) (c i : Nat) : Prop := (∀ (j : Nat) d, j < i → ds[j]? = some d → dueAt (adsOf ds) j d = 0) ∧ ((c = 0 ∧ i = ds.length) ∨ (1 ≤ c ∧ c ≤ 4 ∧ ∃ d, ds[i]? = some d ∧ dueAt (adsOf ds) i d = c))
theorem due_le {ds : List D2} {c i c' i' : Nat} (h : DueIs ds c i) (h' : DueIs ds c' i') : i' ≤ i := by
  rcases Nat.lt_or_ge i i' with z | z
  · rcases h.2 with ⟨_, rfl⟩ | ⟨h1, _, d, e, h2⟩
    · rcases h'.2 with ⟨_, rfl⟩ | ⟨_, _, d, e, _⟩
      · exact absurd z (Nat.lt_irrefl _)
      · have := (List.getElem?_eq_some_iff.mp e).1
        omega
    · rw [h'.1 i d z e] at h2
      omega
  · exact z
theorem due_one {ds : List D2} {c i c' i' : Nat} (h : DueIs ds c i) (h' : DueIs ds c' i') : c = c' ∧ i = i' := by
  have e := Nat.le_antisymm (due_le h' h) (due_le h h')
  subst e
  refine ⟨?_, rfl⟩
  rcases h.2 with ⟨h1, h2⟩ | ⟨h1, _, d, e, h2⟩
  · rcases h'.2 with ⟨h3, _⟩ | ⟨_, _, d, e, _⟩
    · rw [h1, h3]
    · have := (List.getElem?_eq_some_iff.mp e).1
      omega
  · rcases h'.2 with ⟨_, h3⟩ | ⟨_, _, d', e', h3⟩
    · have := (List.getElem?_eq_some_iff.mp e).1
      omega
    · rw [e] at e'
      cases e'
      rw [← h2, ← h3]
noncomputable def wordC (c : Nat) : Str := if c = 1 then "many" else if c = 2 then "double" else if c = 3 then "orphan" else if c = 4 then "clash" else "good"
noncomputable def ErrAt (C : Nat → Addr) (H : Hp) (x : Addr) (c i : Nat) : Prop := 1 ≤ c ∧ c ≤ 4 ∧ ∃ q, H x = some (ExO false x (C (21 + c)) (some q)) ∧ H q = some (XdO q [("at", .int (i : Int))])
noncomputable def spOrphan2 (C : Nat → Addr) : Sp := fun vs H Q _ => ∃ (p l la : Addr) (ys zs : List Str) (rs : List RowD), vs = [.ref p, .ref la] ∧ PartAt C H p (dotted ys) l rs ∧ GoodA ys ∧ H la = some (.lst (zs.map V.str)) ∧ ∀ b, (b = true ↔ ys.dropLast ≠ [] ∧ dotted ys.dropLast ∉ zs) → Pur (.bl b) H Q
noncomputable def spClash2 (C : Nat → Addr) : Sp := fun vs H Q _ => ∃ (p l la : Addr) (ys zs ns : List Str), vs = [.ref p, .ref la] ∧ PartAt C H p (dotted ys) l (ns.map letR) ∧ GoodA ys ∧ ns.length ≤ 12 ∧ (∀ n ∈ ns, IsNm n) ∧ H la = some (.lst (zs.map V.str)) ∧ ∀ b, (b = true ↔ ∃ n ∈ ns, dotted ys ++ "." ++ n ∈ zs) → Pur (.bl b) H Q
noncomputable def spCheck2 (C : Nat → Addr) : Sp := fun vs H Q E => ∃ (l : Addr) (ds : List D2), vs = [.ref l] ∧ PartsAt C H l (ds.map partD) ∧ ds.length ≤ 200 ∧ (∀ d ∈ ds, G2 12 d) ∧ (∀ c i, DueIs ds c i → (c = 0 → Pur .non H Q) ∧ (1 ≤ c → ∀ x H', Same H H' → ErrAt C H' x c i → E (.ref x) none H'))
noncomputable def spHIni2 (C : Nat → Addr) : Sp := fun vs H Q E => ∃ (x dx d : Addr) (ds : List D2) (xs : List V), vs = [.ref x, .ref d] ∧ H x = some (.ins (C 8) dx []) ∧ H d = some (.lst xs) ∧ PartsX C H xs (ds.map partD) ∧ ds.length ≤ 200 ∧ (∀ d ∈ ds, G2 12 d) ∧
  ∀ c i, DueIs ds c i → (c = 0 → ∀ l H', H l = none → SameBut x H H' → HouseHd C H' x l → H' l = some (.lst xs) → Q .non H') ∧ (1 ≤ c → ∀ e H', Same H H' → ErrAt C H' e c i → E (.ref e) none H')
noncomputable def spWord2 (C : Nat → Addr) : Sp := fun vs H Q _ => ∃ (x : Addr) (c i : Nat), vs = [.ref x] ∧ ErrAt C H x c i ∧ ∀ p H', Same H H' → H' p = some (.tup [.str (wordC c), .int (i : Int)]) → Q (.ref p) H'
noncomputable def TupOk (H : Hp) (v : V) (d : D2) : Prop := ∃ t b, v = .ref t ∧ H t = some (.tup [.str (dotted d.ad), .ref b]) ∧ H b = some (.lst (d.ns.map V.str))
noncomputable def TX (H : Hp) (xs : List V) (ds : List D2) : Prop := xs.length = ds.length ∧ ∀ (i : Nat) d, ds[i]? = some d → ∃ v, xs[i]? = some v ∧ TupOk H v d
noncomputable def SomeAt (H : Hp) (l : Addr) (ds : List D2) : Prop := ∃ xs, H l = some (.lst xs) ∧ TX H xs ds
theorem TupOk.same {H H' : Hp} {v : V} {d : D2} (h : TupOk H v d) (s : Same H H') : TupOk H' v d := by
  obtain ⟨t, b, e, h1, h2⟩ := h
  exact ⟨t, b, e, s _ _ h1, s _ _ h2⟩
theorem TX.same {H H' : Hp} {xs : List V} {ds : List D2} (h : TX H xs ds) (s : Same H H') : TX H' xs ds := ⟨h.1, fun i d e => by obtain ⟨v, e1, e2⟩ := h.2 i d e; exact ⟨v, e1, e2.same s⟩⟩
theorem SomeAt.same {H H' : Hp} {l : Addr} {ds : List D2} (h : SomeAt H l ds) (s : Same H H') : SomeAt H' l ds := by
  obtain ⟨xs, h1, h2⟩ := h
  exact ⟨xs, s _ _ h1, h2.same s⟩
theorem TX.append {H : Hp} {xs ys : List V} {ds es : List D2} (h : TX H xs ds) (k : TX H ys es) : TX H (xs ++ ys) (ds ++ es) := by
  refine ⟨by rw [List.length_append, List.length_append, h.1, k.1], fun i d e => ?_⟩
  rcases Nat.lt_or_ge i ds.length with z | z
  · rw [List.getElem?_append_left z] at e
    obtain ⟨v, e1, e2⟩ := h.2 i d e
    exact ⟨v, by rw [List.getElem?_append_left (by rw [h.1]; exact z)]; exact e1, e2⟩
  · rw [List.getElem?_append_right z] at e
    obtain ⟨v, e1, e2⟩ := k.2 _ d e
    exact ⟨v, by rw [List.getElem?_append_right (by rw [h.1]; exact z), h.1]; exact e1, e2⟩
theorem TX.take {H : Hp} {xs : List V} {ds : List D2} (h : TX H xs ds) (n : Nat) : TX H (xs.take n) (ds.take n) := by
  refine ⟨by rw [List.length_take, List.length_take, h.1], fun i d e => ?_⟩
  rw [List.getElem?_take] at e
  by_cases k : i < n
  · rw [if_pos k] at e
    obtain ⟨v, e1, e2⟩ := h.2 i d e
    exact ⟨v, by rw [List.getElem?_take, if_pos k]; exact e1, e2⟩
  · rw [if_neg k] at e; cases e
theorem TX.drop {H : Hp} {xs : List V} {ds : List D2} (h : TX H xs ds) (n : Nat) : TX H (xs.drop n) (ds.drop n) := by
  refine ⟨by rw [List.length_drop, List.length_drop, h.1], fun i d e => ?_⟩
  rw [List.getElem?_drop] at e
  obtain ⟨v, e1, e2⟩ := h.2 _ d e
  exact ⟨v, by rw [List.getElem?_drop]; exact e1, e2⟩
theorem TX.one {H : Hp} {t b : Addr} {d : D2} (h1 : H t = some (.tup [.str (dotted d.ad), .ref b])) (h2 : H b = some (.lst (d.ns.map V.str))) : TX H [V.ref t] [d] := ⟨rfl, fun i e he => by
  match i, he with
  | 0, he => cases he; exact ⟨_, rfl, t, b, rfl, h1, h2⟩
  | n + 1, he => simp at he⟩
theorem TX.at {H : Hp} {xs : List V} {ds : List D2} (h : TX H xs ds) {i : Nat} {v : V} (e : xs[i]? = some v) : ∃ d, ds[i]? = some d ∧ TupOk H v d := by
  have hi : i < ds.length := by rw [← h.1]; exact (List.getElem?_eq_some_iff.mp e).1
  obtain ⟨v', e1, e2⟩ := h.2 i ds[i] (List.getElem?_eq_getElem hi)
  rw [e] at e1
  cases e1
  exact ⟨_, List.getElem?_eq_getElem hi, e2⟩
theorem cut_pre (xs : List V) {k : Int} (h : 0 ≤ k) : cutV xs none (some k) = xs.take k.toNat := by
  have e := cut_to xs k.toNat
  rw [show ((k.toNat : Nat) : Int) = k from by omega] at e
  exact e
structure Gs (n : Nat) (ds : List D2) : Prop where
  ne : ds ≠ []
  hi : ds.length ≤ 14 + 10 * n
  ok : ∀ d ∈ ds, G2 (1 + n) d
theorem G2.mono {m n : Nat} {d : D2} (g : G2 m d) (h : m ≤ n) : G2 n d := ⟨g.ad, Nat.le_trans g.hi h, g.nm⟩
noncomputable def spSpoilt : Sp := fun vs H Q _ => ∃ (l lw : Addr) (c : Int) (ds : List D2) (n : Nat) (ws : List Str), vs = [.ref l, .int c, .ref lw] ∧ SomeAt H l ds ∧ Gs n ds ∧ n ≤ 7 ∧ H lw = some (.lst (ws.map V.str)) ∧ ws.length = 8 ∧ (∀ w ∈ ws, IsNm w) ∧ ∀ l' H' es, Same H H' → SomeAt H' l' es → Gs (n + 1) es → Q (.ref l') H'
noncomputable def spDue2 : Sp := fun vs H Q _ => ∃ (l : Addr) (ds : List D2), vs = [.ref l] ∧ SomeAt H l ds ∧ ds.length ≤ 200 ∧ (∀ d ∈ ds, G2 12 d) ∧ ∀ p H' c i, Same H H' → DueIs ds c i → H' p = some (.tup [.str (wordC c), .int (i : Int)]) → Q (.ref p) H'
noncomputable def spTold (C : Nat → Addr) : Sp := fun vs H Q _ => ∃ (l : Addr) (ds : List D2), vs = [.ref l] ∧ SomeAt H l ds ∧ ds.length ≤ 200 ∧ (∀ d ∈ ds, G2 12 d) ∧ ∀ p H' c i, Same H H' → DueIs ds c i → H' p = some (.tup [.str (wordC c), .int (i : Int)]) → Q (.ref p) H'
theorem due_ok {ds : List D2} (g : ∀ d ∈ ds, G2 12 d) (h : DueIs ds 0 ds.length) : HouseOk (ds.map partD) := by
  have z : ∀ (j : Nat) d, ds[j]? = some d → dueAt (adsOf ds) j d = 0 := fun j d e => h.1 j d (List.getElem?_eq_some_iff.mp e).1 e
  refine ⟨?_, fun p hp => ?_, ?_, fun p hp => ?_, fun p hp r hr hn => ?_⟩
  · rw [List.length_map]
    rcases Nat.lt_or_ge 12 ds.length with k | k
    · exact absurd (Nat.le_refl 12) (due0_of (z 12 ds[12] (List.getElem?_eq_getElem k))).1
    · exact k
  · obtain ⟨d, hd, rfl⟩ := List.mem_map.mp hp
    exact ⟨(g d hd).ad, (g d hd).rs (Nat.le_refl _)⟩
  · rw [adS_parts]
    unfold adsOf
    refine List.pairwise_iff_getElem.mpr fun i j hi hj hij e => ?_
    have hj' : j < ds.length := by simpa using hj
    have hi' : i < ds.length := by simpa using hi
    refine (due0_of (z j ds[j] (List.getElem?_eq_getElem hj'))).2.1 ?_
    have e2 : (ds.map fun d => dotted d.ad)[i]? = some (dotted ds[j].ad) := by
      rw [List.getElem?_eq_getElem hi, e, List.getElem_map]
    refine List.mem_of_getElem? (i := i) ?_
    rw [List.getElem?_take, if_pos hij]
    exact e2
  · obtain ⟨d, hd, rfl⟩ := List.mem_map.mp hp
    obtain ⟨i, hi, e⟩ := List.getElem_of_mem hd
    have h3 := (due0_of (z i d (by rw [List.getElem?_eq_getElem hi, e]))).2.2.1
    rw [adS_parts]
    by_cases k : d.ad.dropLast = []
    · exact .inl k
    · exact .inr (Classical.byContradiction fun u => h3 ⟨k, u⟩)
  · obtain ⟨d, hd, rfl⟩ := List.mem_map.mp hp
    obtain ⟨i, hi, e⟩ := List.getElem_of_mem hd
    have h4 := (due0_of (z i d (by rw [List.getElem?_eq_getElem hi, e]))).2.2.2
    obtain ⟨n, hn2, rfl⟩ := List.mem_map.mp hr
    rw [adS_parts]
    exact fun u => h4 ⟨n, hn2, u⟩
theorem dot_iff {ys : List Str} (g : GoodA ys) : (!(Builtin.Str.occurrences (dotted ys) ("." : Str) 0 (dotted ys).length 1).isEmpty) = true ↔ ys.dropLast ≠ [] := by
  obtain ⟨xs, b, rfl⟩ : ∃ xs b, ys = xs ++ [b] := ⟨ys.dropLast, ys.getLast g.lo, (List.dropLast_concat_getLast g.lo).symm⟩
  rw [List.dropLast_concat]
  constructor
  · intro h e
    subst e
    have h46 := dot_in h
    rw [List.nil_append, dotted_one] at h46
    exact (g.nm b (by simp)).nodot h46
  · intro h
    rw [← dotted_snoc h, dot_eq, StrLaws.found_one]
    refine decide_eq_true ?_
    rw [strApp, strApp]
    exact List.mem_append_left _ (List.mem_append_right _ (by simp))
theorem cut_init (xs : List V) (h : xs ≠ []) : cutV xs none (some (-1)) = xs.dropLast := by
  unfold cutV
  have h0 := List.length_pos_iff.mpr h
  have e2 : HT.sIx xs.length xs.length (some (-1)) = xs.length - 1 := by
    show (if (-1 : Int) < 0 then ((-1 : Int) + ((xs.length : Nat) : Int)).toNat else min (-1 : Int).toNat xs.length) = _
    rw [if_pos (by decide)]
    omega
  have e1 : HT.sIx xs.length 0 none = 0 := rfl
  rw [e1, e2, List.drop_zero, Nat.sub_zero, List.dropLast_eq_take]
theorem slice_mem6 {x : Str} {l u : Option Int} {n : Nat} (h : n ∈ (Txt.slice x l u).cps.toList) : n ∈ x.cps.toList := by
  unfold Txt.slice at h
  split at h
  · exact h
  · simp only [List.mem_filterMap] at h
    obtain ⟨i, _, e⟩ := h
    rw [← Array.getElem?_toList] at e
    exact List.mem_of_getElem? e
theorem slice6_len {x : Str} (h : x.length ≤ 8) : (Txt.slice x none (some 6)).length ≤ 6 := by
  by_cases k : 6 ≤ x.length
  · have e := eq_of_beq (slice_closes_to (x := x) (j := 6) ⟨by decide, by rw [Array.length_toList]; exact Int.ofNat_le.mpr k⟩)
    rw [e]
    show (((x.cps.toList.drop (0 : Int).toNat).take (6 - 0 : Int).toNat).toArray).size ≤ 6
    rw [List.size_toArray]
    exact List.length_take_le _ _
  · exact Nat.le_trans (Txt.slice_le _ _ _) (by omega)
theorem q_nm {w : Str} (h : IsNm w) {c : Nat} (hc : 97 ≤ c ∧ c ≤ 122) : IsNm ("q" ++ Txt.slice w none (some 6) ++ (⟨#[c]⟩ : Str)) := by
  have h6 := slice6_len h.hi
  have hq : (("q" : Str)).length = 1 := by decide +kernel
  have hl : ((⟨#[c]⟩ : Str)).length = 1 := rfl
  refine ⟨by rw [appLen, appLen, hl]; omega, by rw [appLen, appLen, hl, hq]; omega, fun n hn => ?_⟩
  rw [strApp, strApp] at hn
  rcases List.mem_append.mp hn with k | k
  · rcases List.mem_append.mp k with k | k
    · have : n = 113 := by
        have e : (("q" : Str)).cps.toList = [113] := by decide +kernel
        rw [e] at k
        simpa using k
      omega
    · exact h.ok n (slice_mem6 k)
  · have : n = c := by simpa using k
    omega
theorem nm_zz : IsNm ("zz" : Str) := isNm_of (by decide +kernel)
theorem zz1 {w : Str} (h : IsNm w) : GoodA ["zz", w] ∧ ("zz." ++ w : Str) = dotted ["zz", w] := by
  refine ⟨⟨by simp, (by show 2 ≤ 3; decide), fun y hy => ?_⟩, ?_⟩
  · rcases List.mem_cons.mp hy with rfl | hy
    · exact nm_zz
    · rw [List.mem_singleton.mp hy]; exact h
  · rw [show (["zz", w] : List Str) = [("zz" : Str)] ++ [w] from rfl, ← dotted_snoc (by simp), dotted_one]
    apply strExt
    rw [strApp, strApp, strApp]
    rfl
theorem zz2 {w : Str} (h : IsNm w) : GoodA ["zz", "zz", w] ∧ ("zz.zz." ++ w : Str) = dotted ["zz", "zz", w] := by
  refine ⟨⟨by simp, (by show 3 ≤ 3; decide), fun y hy => ?_⟩, ?_⟩
  · rcases List.mem_cons.mp hy with rfl | hy
    · exact nm_zz
    · rcases List.mem_cons.mp hy with rfl | hy
      · exact nm_zz
      · rw [List.mem_singleton.mp hy]; exact h
  · rw [show (["zz", "zz", w] : List Str) = [("zz" : Str), ("zz" : Str)] ++ [w] from rfl, ← dotted_snoc (by simp), ← (zz1 nm_zz).2]
    apply strExt
    rw [strApp, strApp, strApp, strApp]
    rfl
theorem at_pickT {H : Hp} {xs : List V} {ds : List D2} {c k : Int} (tx : TX H xs ds) (h : ds ≠ []) : ∃ (i : Nat) (d : D2) (t b : Addr), ds[i]? = some d ∧ pick c k xs.length = (i : Int) ∧ atI xs (pick c k xs.length) = some (V.ref t) ∧ H t = some (.tup [.str (dotted d.ad), .ref b]) ∧ H b = some (.lst (d.ns.map V.str)) := by
  have hl : 0 < (xs.length : Int) := by have := List.length_pos_iff.mpr h; rw [tx.1]; omega
  have h1 := pick_ge c k hl
  have h2 := pick_lt c k hl
  have h3 : (pick c k xs.length).toNat < xs.length := by omega
  obtain ⟨d, ed, t, b, ev, ht, hb⟩ := tx.at (List.getElem?_eq_getElem h3)
  have e : pick c k xs.length = (((pick c k xs.length).toNat : Nat) : Int) := by omega
  refine ⟨_, d, t, b, ed, e, ?_, ht, hb⟩
  rw [e]
  exact atI_nat (by rw [List.getElem?_eq_getElem h3, ev])
theorem Gs.of {n : Nat} {ds es : List D2} (ne : es ≠ []) (hi : es.length ≤ 14 + 10 * n + 10) (ok : ∀ d ∈ es, G2 (1 + (n + 1)) d) : Gs (n + 1) es := ⟨ne, by omega, ok⟩
theorem mem_mid {α : Type} {xs ys zs : List α} {d : α} (h : d ∈ xs ++ ys ++ zs) : d ∈ xs ∨ d ∈ ys ∨ d ∈ zs := by
  rcases List.mem_append.mp h with k | k
  · exact (List.mem_append.mp k).imp id .inl
  · exact .inr (.inr k)
theorem ite_and {a b : Bool} {X Y T : Prop} (hT : (if b = true then X else Y) → T) (h1 : a = true → b = true → X) (h2 : ¬ (a = true ∧ b = true) → Y) : if a = true then T else (if false = true then X else Y) := by
  cases a with
  | false => rw [if_neg (by decide), if_neg (by decide)]; exact h2 fun z => Bool.noConfusion z.1
  | true =>
    rw [if_pos rfl]
    refine hT ?_
    cases b with
    | false => rw [if_neg (by decide)]; exact h2 fun z => Bool.noConfusion z.2
    | true => rw [if_pos rfl]; exact h1 rfl rfl
noncomputable def without (H : Hp) (B : Addr) : Hp := fun b => if b = B then none else H b
theorem without_at (H : Hp) (B : Addr) : without H B B = none := by unfold without; rw [if_pos rfl]
theorem without_ne {H : Hp} {B b : Addr} (h : b ≠ B) : without H B b = H b := by unfold without; rw [if_neg h]
theorem same_without (H : Hp) (B : Addr) : Same (without H B) H := fun b o e => by
  unfold without at e
  split at e
  · cases e
  · exact e
theorem Same.without {H H' : Hp} {B : Addr} (s : Same H H') (h : H B = none) : Same H (Mine.without H' B) := fun b o e => by
  rw [without_ne (fun z => by rw [z, h] at e; cases e)]
  exact s b o e
theorem Same.woth {H H' : Hp} {B : Addr} (s : Same H H') : Same (Mine.without H B) (Mine.without H' B) := fun b o e => by
  by_cases k : b = B
  · rw [k, without_at] at e; cases e
  · rw [without_ne k] at e ⊢
    exact s b o e
theorem without_upd {H : Hp} {B : Addr} {o : HO} : Same (without H B) (without (upd H B o) B) := fun b u e => by
  by_cases k : b = B
  · rw [k, without_at] at e; cases e
  · rw [without_ne k] at e ⊢
    rw [upd_ne k]
    exact e
theorem dsq_tup {K : PySem.W.Frag} {H : Hp} {a b : Addr} {xs : List V} (ha : H a = some (.tup xs)) (hb : H b = some (.tup xs)) (h : ∀ v ∈ xs, flatV v = true ∨ ∃ p, v = .ref p) : DSq K H a b :=
  ⟨0, xs, xs, by decide, rfl, .inl ⟨SqT.of ha, SqT.of hb⟩, fun i x y ex ey => by rw [ex] at ey; cases ey; exact deq_refl (h x (List.mem_of_getElem? ex))⟩
theorem word_flat (c i : Nat) : ∀ v ∈ [V.str (wordC c), V.int (i : Int)], flatV v = true ∨ ∃ p, v = .ref p := fun v hv => by
  rcases List.mem_cons.mp hv with rfl | hv
  · exact .inl rfl
  · rw [List.mem_singleton.mp hv]; exact .inl rfl
section
variable {K : PySem.W.Frag} {HE C D : Addr}
theorem cl_at {nm q : Str} {N : Addr} {bs bm : List Value} {sn : List Str} {sub : List Value} {ab : Bool} {col : Option Bool} {dd : Option Addr} {k0 k1 k2 k3 k5 : Option Value} (l : K.lookup C = some (excClassObj nm q C N bs bm true sn sub ab col dd k0 k1 k2 k3 k5 "ValueError.__new__")) : ClAt K C bm := ⟨_, _, _, _, _, _, _, _, _, _, _, _, _, _, l⟩
theorem cl_kit {bm bm' : List Value} (l : ClAt K C bm) (l' : ClAt K D bm') : PySem.W.kitOne K (.ref C) (.ref D) = some ((Value.ref C :: bm).contains (.ref D)) := by
  obtain ⟨_, _, _, _, _, _, _, _, _, _, _, _, _, _, l⟩ := l
  obtain ⟨_, _, _, _, _, _, _, _, _, _, _, _, _, _, l'⟩ := l'
  exact kit_ref l l'
theorem cl_self {bm : List Value} (l : ClAt K C bm) : PySem.W.kitOne K (.ref C) (.ref C) = some true := by rw [cl_kit l l]; simp
theorem cl_no (l : ClAt K C (.ref HE :: veMro)) (l' : ClAt K D (.ref HE :: veMro)) (h0 : D ≠ HE) (h1 : D ≠ C) : PySem.W.kitOne K (.ref C) (.ref D) = some false := by
  rw [cl_kit l l', List.contains_cons, List.contains_cons, ve_ref]
  have e0 : (Value.ref D == Value.ref HE) = false := beq_eq_false_iff_ne.mpr fun z => h0 (Value.ref.inj z)
  have e1 : (Value.ref D == Value.ref C) = false := beq_eq_false_iff_ne.mpr fun z => h1 (Value.ref.inj z)
  rw [e0, e1]
  rfl
theorem cl_ve (l : ClAt K C (.ref HE :: veMro)) : PySem.W.kitOne K (.ref C) (.type "ValueError") = some true := by
  obtain ⟨_, _, _, _, _, _, _, _, _, _, _, _, _, _, l⟩ := l
  rw [kit_ve (by decide +kernel) l]
  simp
theorem cl_sub (l : ClAt K C (.ref HE :: veMro)) : Sub K C HE := by
  obtain ⟨_, _, _, _, _, _, _, _, _, _, _, _, _, _, l⟩ := l
  exact ⟨_, _, _, _, _, _, _, _, _, _, _, _, _, _, _, _, _, l, by simp⟩
theorem cl_cls (l : ClAt K C (.ref HE :: veMro)) (ga : PySem.W.findIn K (.ref C) "__getattribute__" = some (some (.builtin "BaseException.__getattribute__"))) (nga : PySem.W.findIn K (.ref C) "__getattr__" = some none)
    (sa : PySem.W.findIn K (.ref C) "__setattr__" = some (some (.builtin "object.__setattr__"))) (cl : PySem.W.findIn K (.ref C) "__class__" = some (some (.builtin "object.__class__")))
    (cg : PySem.W.specialIn K (.builtin "object.__class__") "__get__" = some (some (.builtin "getset_descriptor.__get__"))) (ct : PySem.W.takesIn K (.builtin "object.__class__") = some true) : ClsX K C := by
  obtain ⟨_, _, _, _, _, _, _, _, _, _, _, _, _, _, l⟩ := l
  exact clsX_of l rfl rfl ga nga sa cl cg ct
structure XI (K : PySem.W.Frag) (HE C f : Addr) (x : Str) : Prop where
  A : PySem.W.nsIn K mainGlobals x = some (some (.ref C))
  l : ClAt K C (.ref HE :: veMro)
  e0 : PySem.W.findIn K (.ref C) "__getattribute__" = some (some (.builtin "BaseException.__getattribute__"))
  e1 : PySem.W.findIn K (.ref C) "__getattr__" = some none
  e2 : PySem.W.findIn K (.ref C) "__setattr__" = some (some (.builtin "object.__setattr__"))
  e3 : PySem.W.findIn K (.ref C) "__class__" = some (some (.builtin "object.__class__"))
  e4 : PySem.W.findIn K (.ref C) "at" = some none
  e5 : PySem.W.findIn K (.ref C) "__init__" = some (some (.ref f))
  kp : PySem.W.keepIn K (.ref C) = true
theorem all4x {p : Nat → Prop} (a : p 22) (b : p 23) (c : p 24) (d : p 25) : ∀ i, 22 ≤ i → i ≤ 25 → p i := fun i h1 h2 => by
  rcases (by omega : i = 22 ∨ i = 23 ∨ i = 24 ∨ i = 25) with rfl | rfl | rfl | rfl
  · exact a
  · exact b
  · exact c
  · exact d
theorem nd_ne {cs : List Addr} (h : cs.Nodup) {i j : Nat} {a b : Addr} (ha : cs[i]? = some a) (hb : cs[j]? = some b) (hij : i ≠ j) : a ≠ b := fun e => by
  subst e
  exact hij ((List.getElem?_inj (List.getElem?_eq_some_iff.mp ha).1 h).mp (ha.trans hb.symm))
theorem kit_any : ∀ {t : Value} {cs : List Value}, (∀ c ∈ cs, PySem.W.kitOne K t c = some false) → PySem.W.kitAny K t cs = some false
  | _, [], _ => rfl
  | t, c :: r, h => by
    unfold PySem.W.kitAny
    rw [h c (by simp)]
    exact kit_any fun d hd => h d (List.mem_cons_of_mem _ hd)
end

end
structure Tx (K : PySem.W.Frag) (mg : Str → Option Value) (C : Nat → Addr) : Prop where
  sorted : mg "sorted" = none
  t_dict : mg "dict" = none
  any : mg "any" = none
  enumerate : mg "enumerate" = none
  len : mg "len" = none
  range : mg "range" = none
  inst : mg "isinstance" = none
  t_str : mg "str" = none
  t_int : mg "int" = none
  t_bool : mg "bool" = none
  t_list : mg "list" = none
  t_tuple : mg "tuple" = none
  all : mg "all" = none
  max : mg "max" = none
  min : mg "min" = none
  zip : mg "zip" = none
  t_ValueError : mg "ValueError" = none
  g_MOST_PARTS : ∃ t, mg "MOST_PARTS" = some (.int 12 t)
  a_parent_of : ∃ f fd, FnAt K mg "parent_of" s_parent_of psPParentOf f fd
  a_is_orphan : ∃ f fd, FnAt K mg "is_orphan" s_is_orphan psPIsOrphan f fd
  a_is_clash : ∃ f fd, FnAt K mg "is_clash" s_is_clash psPIsClash f fd
  a_check_parts : ∃ f fd, FnAt K mg "check_parts" s_check_parts psPCheckParts f fd
  a_law_cell : ∃ f fd, FnAt K mg "_law_cell" s_law_cell psCell f fd
  a_law_pick : ∃ f fd, FnAt K mg "_law_pick" s_law_pick psPick f fd
  a_law_words : ∃ f fd, FnAt K mg "_law_words" s_law_words psWords f fd
  a_law_addresses : ∃ f fd, FnAt K mg "_law_addresses" s_law_addresses psAddresses f fd
  a_law_spoilt : ∃ f fd, FnAt K mg "_law_spoilt" s_law_spoilt psSpoilt f fd
  a_law_due : ∃ f fd, FnAt K mg "_law_due" s_law_due psDue f fd
  a_law_word : ∃ f fd, FnAt K mg "_law_word" s_law_word psWord f fd
  a_law_told : ∃ f fd, FnAt K mg "_law_told" s_law_told psTold f fd
  i_House : ∃ f fd, MAt K "__init__" "House.__init__" s_m_House___init__ psPMHouseInit f fd ∧ Mk K (C 8) f
  m_House_addresses : ∃ f fd, MAt K "addresses" "House.addresses" s_m_House_addresses psPMHouseAddresses f fd ∧ Meth K (C 8) "addresses" f
  i_Part : ∃ f fd, MAt K "__init__" "Part.__init__" s_m_Part___init__ psPMPartInit f fd ∧ Mk K (C 7) f
  m_Part_bound : ∃ f fd, MAt K "bound" "Part.bound" s_m_Part_bound psPMPartBound f fd ∧ Meth K (C 7) "bound" f
  i_Let : ∃ f fd, MAt K "__init__" "Let.__init__" s_m_Let___init__ psPMLetInit f fd ∧ Mk K (C 0) f
  m_Let_binds : ∃ f fd, MAt K "binds" "Let.binds" s_m_Let_binds psPMLetBinds f fd ∧ Meth K (C 0) "binds" f
  c_Let : mg "Let" = some (.ref (C 0))
  c_Part : mg "Part" = some (.ref (C 7))
  c_House : mg "House" = some (.ref (C 8))
  fam : RFam1 K C
  pt : PFam K (C 7)
  hs : HFam K (C 8)
  c_HouseError : mg "HouseError" = some (.ref (C 20))
  c_NoPart : mg "NoPart" = some (.ref (C 21))
  c_TooMany : mg "TooMany" = some (.ref (C 22))
  c_Double : mg "Double" = some (.ref (C 23))
  c_Orphan : mg "Orphan" = some (.ref (C 24))
  c_Clash : mg "Clash" = some (.ref (C 25))
  c_NoDrop : mg "NoDrop" = some (.ref (C 26))
  c_NoExpr : mg "NoExpr" = some (.ref (C 27))
  c_NoName : mg "NoName" = some (.ref (C 28))
  c_NoText : mg "NoText" = some (.ref (C 29))
  c_Twice : mg "Twice" = some (.ref (C 30))
  x_HouseError : ExC K (C 20)
  xf : XFam K C
  x_TooMany : ExC K (C 22)
  x_Double : ExC K (C 23)
  x_Orphan : ExC K (C 24)
  x_Clash : ExC K (C 25)
  i_TooMany : ∃ f fd, XIn K (C 22) "TooMany.__init__" s_i_TooMany psPITooMany f fd
  i_Double : ∃ f fd, XIn K (C 23) "Double.__init__" s_i_Double psPIDouble f fd
  i_Orphan : ∃ f fd, XIn K (C 24) "Orphan.__init__" s_i_Orphan psPIOrphan f fd
  i_Clash : ∃ f fd, XIn K (C 25) "Clash.__init__" s_i_Clash psPIClash f fd
  ini1 : PySem.W.specialIn K (.ref (C 20)) "__getattribute__" = some (some (.builtin "type.__getattribute__"))
  ini2 : PySem.W.readsIn K (C 20) (.type "type") = true
  ini3 : PySem.W.findCls K (.ref (C 20)) (.type "type") "__init__" = some (.val (.builtin "ValueError.__init__"))
end Mine
namespace Mine
open PySem PySem.Spec PyProof.Rows L2
section
variable {P : Program} {w : World} {K : PySem.W.Frag} {mg : Str → Option Value} {base : Heap}
theorem ok_i_TooMany {C : Nat → Addr} (T : Tx K mg C) {f : Addr} {fd : FuncData} (F : Fun K "__init__" "TooMany.__init__" s_i_TooMany f fd) : FnOk P w K mg base CX0 1 f fd psPITooMany (spIniI (C 22)) := by
  refine F.ok scPITooMany (fun vs H Q E h => ?_) (fun cdv A outer s H vs Q E hr h => ?_)
  · obtain ⟨x, n, rfl, _⟩ := h
    rfl
  · obtain ⟨x, n, rfl, hx, hi, q⟩ := h
    refine ⟨_, QSs.h (qss_cons (qs_expr (pe_xinit (by rfl) T.c_HouseError T.ini1 T.ini2 T.ini3 (pa_cons (pv 0) (pa_cons (pe_joined (pj_cons pe_str (pj_cons (pe_fmt (pv 1)) pj_nil))) pa_nil))))
      (qss_one (qs_xfld0 (pv 0) (pv 1)))), ?_⟩
    refine ⟨_, rfl, _, rfl, by decide +kernel, _, rfl, Or.inl ⟨_, rfl, hi, _, rfl, fitA (by decide +kernel) (Nat.le_trans (txtI hi) (by decide)), fitA (by decide +kernel) (Nat.le_trans (txtI hi) (by decide)), _, _, _, _, _, rfl, hx, T.x_TooMany, ?_⟩⟩
    exact ⟨_, rfl, _, rfl, _, _, _, rfl, hx, T.xf.x 22 (by decide) (by decide), T.xf.a 22 (by decide) (by decide), fun p hp hne => q p hp hne⟩

theorem ok_i_Double {C : Nat → Addr} (T : Tx K mg C) {f : Addr} {fd : FuncData} (F : Fun K "__init__" "Double.__init__" s_i_Double f fd) : FnOk P w K mg base CX0 1 f fd psPIDouble (spIniI (C 23)) := by
  refine F.ok scPIDouble (fun vs H Q E h => ?_) (fun cdv A outer s H vs Q E hr h => ?_)
  · obtain ⟨x, n, rfl, _⟩ := h
    rfl
  · obtain ⟨x, n, rfl, hx, hi, q⟩ := h
    refine ⟨_, QSs.h (qss_cons (qs_expr (pe_xinit (by rfl) T.c_HouseError T.ini1 T.ini2 T.ini3 (pa_cons (pv 0) (pa_cons (pe_joined (pj_cons pe_str (pj_cons (pe_fmt (pv 1)) pj_nil))) pa_nil))))
      (qss_one (qs_xfld0 (pv 0) (pv 1)))), ?_⟩
    refine ⟨_, rfl, _, rfl, by decide +kernel, _, rfl, Or.inl ⟨_, rfl, hi, _, rfl, fitA (by decide +kernel) (Nat.le_trans (txtI hi) (by decide)), fitA (by decide +kernel) (Nat.le_trans (txtI hi) (by decide)), _, _, _, _, _, rfl, hx, T.x_Double, ?_⟩⟩
    exact ⟨_, rfl, _, rfl, _, _, _, rfl, hx, T.xf.x 23 (by decide) (by decide), T.xf.a 23 (by decide) (by decide), fun p hp hne => q p hp hne⟩

theorem ok_i_Orphan {C : Nat → Addr} (T : Tx K mg C) {f : Addr} {fd : FuncData} (F : Fun K "__init__" "Orphan.__init__" s_i_Orphan f fd) : FnOk P w K mg base CX0 1 f fd psPIOrphan (spIniI (C 24)) := by
  refine F.ok scPIOrphan (fun vs H Q E h => ?_) (fun cdv A outer s H vs Q E hr h => ?_)
  · obtain ⟨x, n, rfl, _⟩ := h
    rfl
  · obtain ⟨x, n, rfl, hx, hi, q⟩ := h
    refine ⟨_, QSs.h (qss_cons (qs_expr (pe_xinit (by rfl) T.c_HouseError T.ini1 T.ini2 T.ini3 (pa_cons (pv 0) (pa_cons (pe_joined (pj_cons pe_str (pj_cons (pe_fmt (pv 1)) pj_nil))) pa_nil))))
      (qss_one (qs_xfld0 (pv 0) (pv 1)))), ?_⟩
    refine ⟨_, rfl, _, rfl, by decide +kernel, _, rfl, Or.inl ⟨_, rfl, hi, _, rfl, fitA (by decide +kernel) (Nat.le_trans (txtI hi) (by decide)), fitA (by decide +kernel) (Nat.le_trans (txtI hi) (by decide)), _, _, _, _, _, rfl, hx, T.x_Orphan, ?_⟩⟩
    exact ⟨_, rfl, _, rfl, _, _, _, rfl, hx, T.xf.x 24 (by decide) (by decide), T.xf.a 24 (by decide) (by decide), fun p hp hne => q p hp hne⟩

theorem ok_i_Clash {C : Nat → Addr} (T : Tx K mg C) {f : Addr} {fd : FuncData} (F : Fun K "__init__" "Clash.__init__" s_i_Clash f fd) : FnOk P w K mg base CX0 1 f fd psPIClash (spIniI (C 25)) := by
  refine F.ok scPIClash (fun vs H Q E h => ?_) (fun cdv A outer s H vs Q E hr h => ?_)
  · obtain ⟨x, n, rfl, _⟩ := h
    rfl
  · obtain ⟨x, n, rfl, hx, hi, q⟩ := h
    refine ⟨_, QSs.h (qss_cons (qs_expr (pe_xinit (by rfl) T.c_HouseError T.ini1 T.ini2 T.ini3 (pa_cons (pv 0) (pa_cons (pe_joined (pj_cons pe_str (pj_cons (pe_fmt (pv 1)) pj_nil))) pa_nil))))
      (qss_one (qs_xfld0 (pv 0) (pv 1)))), ?_⟩
    refine ⟨_, rfl, _, rfl, by decide +kernel, _, rfl, Or.inl ⟨_, rfl, hi, _, rfl, fitA (by decide +kernel) (Nat.le_trans (txtI hi) (by decide)), fitA (by decide +kernel) (Nat.le_trans (txtI hi) (by decide)), _, _, _, _, _, rfl, hx, T.x_Clash, ?_⟩⟩
    exact ⟨_, rfl, _, rfl, _, _, _, rfl, hx, T.xf.x 25 (by decide) (by decide), T.xf.a 25 (by decide) (by decide), fun p hp hne => q p hp hne⟩

theorem ok_parent_of {C : Nat → Addr} (T : Tx K mg C) {f : Addr} {fd : FuncData} (F : Fun K "parent_of" "parent_of" s_parent_of f fd) : FnOk P w K mg base CX0 1 f fd psPParentOf spParent := by
  refine F.ok scPParentOf (fun vs H Q E h => ?_) (fun cdv A outer s H vs Q E hr h => ?_)
  · obtain ⟨ys, rfl, _⟩ := h
    rfl
  · obtain ⟨ys, rfl, g, q⟩ := h
    refine ⟨_, QSs.h (qss_one (qs_ret (pe_ix ix_tup (pe_bm PySem.F.plainAttrs_str PySem.F.slot_str_rpartition PySem.F.type_str_rpartition mt_rpart (pv 0) (pa_cons pe_str pa_nil)) pe_int (fun _ _ => rfl)))), ?_⟩
    refine ⟨_, rfl, rfl, _, _, rfl, rfl, by decide +kernel, Nat.le_trans g.len (by decide), fun p hp => ⟨p, _, _, _, rfl, rfl, SqT.of upd_same, atI_nat (j := 0) rfl, ?_⟩⟩
    rw [par_eq g]
    exact q _ (Same.new hp)

theorem ok_is_orphan {C : Nat → Addr} (T : Tx K mg C) {f : Addr} {fd : FuncData} (F : Fun K "is_orphan" "is_orphan" s_is_orphan f fd) : FnOk P w K mg base CX0 2 f fd psPIsOrphan (spOrphan2 C) := by
  obtain ⟨f_parent_of, fd_parent_of, A_parent_of⟩ := T.a_parent_of
  have G_parent_of : FnOk P w K mg base CX0 1 f_parent_of fd_parent_of psPParentOf spParent := ok_parent_of T A_parent_of.F
  refine F.ok scPIsOrphan (fun vs H Q E h => ?_) (fun cdv A outer s H vs Q E hr h => ?_)
  · obtain ⟨p, l, la, ys, zs, rs, rfl, _⟩ := h
    rfl
  · obtain ⟨p, l, la, ys, zs, rs, rfl, hp, g, hl, q⟩ := h
    have hr1 : Room 1 _ := hr
    refine ⟨_, QSs.h (qss_cons (qs_set (i := 2) scPIsOrphan.nd rfl (Or.inl rfl) (pcall A_parent_of G_parent_of hr1 (pa_cons (pe_fld (pv 0) rfl) pa_nil)))
      (qss_one (qs_ret (pe_and (pe_cmpR op_ne (pv 2) pe_str (nomark _)) (pe_one (pe_cmpR op_notIn_seq (pv 2) (pv 1) (by rfl))))))), ?_⟩
    obtain ⟨dx, fs, ea, a1, a2, a3, a4, a5, hr0⟩ := id hp
    refine ⟨_, rfl, rdF ea T.pt.cl.cl T.pt.na a1 ⟨ys, rfl, g, fun H1 s1 => ?_⟩⟩
    have hfl : (zs.map V.str).all flatV = true := by rw [List.all_eq_true]; intro v hv; obtain ⟨z, _, rfl⟩ := List.mem_map.mp hv; rfl
    by_cases hd : ys.dropLast = []
    · have e : parS ys = "" := by unfold parS; rw [if_pos hd]
      exact ⟨_, rfl, rfl, _, rfl, iteNTb (decide_eq_true (congrArg V.str e)) (q false ⟨(fun z => Bool.noConfusion z), fun z => absurd hd z.1⟩ H1 s1)⟩
    · have e : parS ys = dotted ys.dropLast := by unfold parS; rw [if_neg hd]
      have gd : GoodA ys.dropLast := ⟨hd, by rw [List.length_dropLast]; exact Nat.le_trans (Nat.sub_le _ _) g.hi, fun y hy => g.nm y (by rw [List.dropLast_eq_take] at hy; exact List.mem_of_mem_take hy)⟩
      have hne : ¬ parS ys = "" := by rw [e]; exact dotted_ne gd
      refine ⟨_, rfl, rfl, _, rfl, iteNFb (decide_eq_false fun z => hne (V.str.inj z)) ⟨_, rfl, _, rfl, la, _, rfl, .inl (SqL.of (s1 _ _ hl)), rfl, hfl, ?_⟩⟩
      exact q (!inV (V.str (parS ys)) (zs.map V.str)) (by
        rw [in_dec, e]
        by_cases k : dotted ys.dropLast ∈ zs
        · rw [decide_eq_true k]; exact ⟨(fun z => Bool.noConfusion z), fun z => absurd k z.2⟩
        · rw [decide_eq_false k]; exact ⟨fun _ => ⟨hd, k⟩, fun _ => rfl⟩) H1 s1

theorem ok_m_Let___init__ {C : Nat → Addr} (T : Tx K mg C) {f : Addr} {fd : FuncData} (F : Fun K "__init__" "Let.__init__" s_m_Let___init__ f fd) : FnOk P w K mg base CX0 1 f fd psPMLetInit (spIniL C 0) := by
  refine F.ok scPMLetInit (fun vs H Q E h => ?_) (fun cdv A outer s H vs Q E hr h => ?_)
  · obtain ⟨x, dx, r, d, rfl, _⟩ := h
    rfl
  · obtain ⟨x, dx, r, d, rfl, hso, hx, hts, h10, q⟩ := h
    refine ⟨_, QSs.h (qss_cons (qs_fld (pv 0) (pv 1))
      (qss_one (qs_fld (pv 0) (pe_callTy call_list_of (by rfl) T.t_list PyProof.Rows.boot_list (pa_cons (pv 2) pa_nil))))), ?_⟩
    obtain ⟨xs, hl, hxl, hxt⟩ := id hts
    have hdx : d ≠ x := ne_of hl hx (by intro z; cases z)
    refine ⟨_, rfl, _, rfl, x, _, dx, _, rfl, hx, (T.fam.c 0 (by decide)).cl, T.fam.nn 0 (by decide), Nat.lt_of_lt_of_le (Nat.zero_lt_one) (by decide), _, rfl, d, _, rfl, .inl (SqL.of (by rw [upd_ne hdx]; exact hl)), fun l hlf => ⟨_, rfl, x, _, dx, _, rfl, (by rw [upd_ne (upd_none hlf).2.symm]; exact upd_same), (T.fam.c 0 (by decide)).cl, T.fam.nt 0 (by decide), Nat.lt_of_lt_of_le (lenP Nat.zero_lt_one) (by decide), ?_⟩⟩
    obtain ⟨hl0, hlx⟩ := upd_none hlf
    refine q l _ hl0 (sb3 hl0) ⟨dx, _, by rw [hso]; exact upd_same, ?_⟩
    refine ⟨fun _ => (lkN (by decide +kernel)).trans lkP, fun _ => ⟨lkP, xs, by rw [upd_ne hlx]; exact upd_same, hxl, fun j y e => ?_⟩, fun k => absurd k (by omega), fun k => absurd k (by omega), (lkN (by decide +kernel)).trans (lkN (by decide +kernel)), (lkN (by decide +kernel)).trans (lkN (by decide +kernel)), (lkN (by decide +kernel)).trans (lkN (by decide +kernel))⟩
    obtain ⟨t, et, tm⟩ := hxt j y e
    exact ⟨t, et, tm.but hx (sb3 hl0)⟩

theorem ok_m_Let_binds {C : Nat → Addr} (T : Tx K mg C) {f : Addr} {fd : FuncData} (F : Fun K "binds" "Let.binds" s_m_Let_binds f fd) : FnOk P w K mg base CX0 1 f fd psPMLetBinds (spB C 0) := by
  refine F.ok scPMLetBinds (fun vs H Q E h => ?_) (fun cdv A outer s H vs Q E hr h => ?_)
  · obtain ⟨a, l, r, rfl, _⟩ := h
    rfl
  · obtain ⟨a, l, r, rfl, hso, ra, q⟩ := h
    refine ⟨_, QSs.h (qss_one (qs_ret (pe_fld (pv 0) rfl))), ?_⟩
    obtain ⟨dx, fs, ha, hf⟩ := id ra
    rw [hso] at ha
    exact ⟨_, rfl, rdF ha (T.fam.c 0 (by decide)).cl (T.fam.nn 0 (by decide)) (hf.nm (by rw [hso]; decide)) (q H (Same.refl H))⟩


theorem vm_of {C : Addr} {m : Str} {f : Addr} {fd : FuncData} {q : Str} {st : Stmt} {ps : List Str} {k : Nat} {sp sp' : Sp} (A : MAt K m q st ps f fd) (M : Meth K C m f) (G : FnOk P w K mg base CX0 k f fd ps sp) (hk : k ≤ 3) (h : ∀ vs H Q E, sp' vs H Q E → sp vs H Q E) : VM P w K mg base 3 C m sp' :=
  ⟨f, fd, ps, M, (G.mono hk).imp h, A.b⟩
theorem rdB {C : Nat → Addr} (T : Tx K mg C) {H : Hp} {a l : Addr} {r : RowD} {Q : VK} (ra : RowAt C H a l r) (h0 : r.so = 0) (q : Pur (.str r.nm) H Q) : MV P w K mg base 3 "binds" (.ref a) H Q := by
  obtain ⟨so, nn, aa, ww, tt⟩ := r
  obtain rfl : so = 0 := h0
  obtain ⟨dx, fs, ha, hf⟩ := id ra
  obtain ⟨f, fd, A, M⟩ := T.m_Let_binds
  exact ⟨a, C 0, dx, fs, spB C 0, rfl, ha, hf.nb, (T.fam.c 0 (by decide)).cl, vm_of A M (ok_m_Let_binds T A.F) (by decide) (fun _ _ _ _ h => h), a, l, _, rfl, rfl, ra, q⟩
theorem ok_m_Part___init__ {C : Nat → Addr} (T : Tx K mg C) {f : Addr} {fd : FuncData} (F : Fun K "__init__" "Part.__init__" s_m_Part___init__ f fd) : FnOk P w K mg base CX0 1 f fd psPMPartInit (spPIni C) := by
  refine F.ok scPMPartInit (fun vs H Q E h => ?_) (fun cdv A outer s H vs Q E hr h => ?_)
  · obtain ⟨x, dx, ad, d, rs, rfl, _⟩ := h
    rfl
  · obtain ⟨x, dx, ad, d, rs, rfl, hx, hrs, h12, q⟩ := h
    refine ⟨_, QSs.h (qss_cons (qs_fld (pv 0) (pv 1))
      (qss_one (qs_fld (pv 0) (pe_callTy call_list_of (by rfl) T.t_list PyProof.Rows.boot_list (pa_cons (pv 2) pa_nil))))), ?_⟩
    obtain ⟨xs, hl, hxl, hxt⟩ := id hrs
    have hdx : d ≠ x := ne_of hl hx (by intro z; cases z)
    refine ⟨_, rfl, _, rfl, x, _, dx, _, rfl, hx, T.pt.cl.cl, T.pt.na, Nat.lt_of_lt_of_le (Nat.zero_lt_one) (by decide), _, rfl, d, _, rfl, .inl (SqL.of (by rw [upd_ne hdx]; exact hl)), fun l hlf => ⟨_, rfl, x, _, dx, _, rfl, (by rw [upd_ne (upd_none hlf).2.symm]; exact upd_same), T.pt.cl.cl, T.pt.nr, Nat.lt_of_lt_of_le (lenP Nat.zero_lt_one) (by decide), ?_⟩⟩
    obtain ⟨hl0, hlx⟩ := upd_none hlf
    refine q l _ hl0 (sb3 hl0) ⟨dx, _, upd_same, (lkN (by decide +kernel)).trans lkP, lkP, (lkN (by decide +kernel)).trans (lkN (by decide +kernel)), (lkN (by decide +kernel)).trans (lkN (by decide +kernel)), (lkN (by decide +kernel)).trans (lkN (by decide +kernel)), ?_⟩
    refine ⟨xs, by rw [upd_ne hlx]; exact upd_same, hxl, fun j r e => ?_⟩
    obtain ⟨a, t, e2, ra⟩ := hxt j r e
    exact ⟨a, t, e2, ra.but (h12.at e) hx (sb3 hl0)⟩

theorem ok_m_Part_bound {C : Nat → Addr} (T : Tx K mg C) {f : Addr} {fd : FuncData} (F : Fun K "bound" "Part.bound" s_m_Part_bound f fd) : FnOk P w K mg base CX0 4 f fd psPMPartBound (spBound1 C) := by
  refine F.ok scPMPartBound (fun vs H Q E h => ?_) (fun cdv A outer s H vs Q E hr h => ?_)
  · obtain ⟨p, ad, l, rs, rfl, _⟩ := h
    rfl
  · obtain ⟨p, ad, l, rs, rfl, hp, hg, h0, q⟩ := h
    have hr3 : Room 3 _ := hr
    refine ⟨_, QSs.h (qss_cons (qs_comp (N := ["row"]) [none] (i := 1) scPMPartBound.nd rfl (Or.inl rfl) rfl (by kernel_rfl) (pi_list (pe_fld (pv 0) rfl)) (fun cl C fp s H => (pg_name (i := 0) (by decide +kernel : (["row"] : List Str).Nodup) rfl (Or.inl rfl))) (fun cl C fp s H => pf_nil) (fun cl C fp s H => (pe_methV (P := P) (w := w) (K := K) (mg := mg) (base := base) rfl rfl rfl rfl rfl hr3 (pv 0))))
      (qss_one (qs_ret (pe_comp (N := ["name"]) [none] rfl (by kernel_rfl) (pi_list (pv 1)) (fun cl C fp s H => (pg_name (i := 0) (by decide +kernel : (["name"] : List Str).Nodup) rfl (Or.inl rfl))) (fun cl C fp s H => (pf_one (pt_cmpR op_ne (pv 0) pe_str (nomark _)))) (fun cl C fp s H => (pv 0)))))), ?_⟩
    obtain ⟨dx, fs, ea, a1, a2, a3, a4, a5, hr0⟩ := id hp
    obtain ⟨xs, hl, hxl, hxt⟩ := id hr0
    refine ⟨_, rfl, rdF ea T.pt.cl.cl T.pt.nr a2 ?_⟩
    have hx12 : xs.length ≤ sizeLine := Nat.le_trans (show xs.length ≤ 12 by rw [hxl]; exact hg.hi) (by decide)
    refine ⟨l, rfl, ⟨xs, SqL.of hl⟩, ?_⟩
    refine comp_listI (fun i => (rs.map fun r => V.str r.nm).getD i .non) hx12 (SqL.of hl) (fun i x H' Q' hx sm k => ?_) (fun H' sm b hb => ?_)
    · have hi : i < rs.length := by rw [← hxl]; exact (List.getElem?_eq_some_iff.mp hx).1
      obtain ⟨a, t, e2, ra⟩ := hxt i rs[i] (List.getElem?_eq_getElem hi)
      obtain rfl : x = .ref a := by rw [hx] at e2; exact Option.some.inj e2
      refine ⟨_, rfl, rdB T (ra.same sm) (h0 _ (List.getElem_mem hi)) fun H'' s'' => ?_⟩
      have e : (rs.map fun r => V.str r.nm).getD i .non = V.str rs[i].nm := by simp [List.getD, hi]
      rw [← e]
      exact k H'' s''
    · have em : (List.range xs.length).map (fun i => (rs.map fun r => V.str r.nm).getD i .non) = rs.map fun r => V.str r.nm := by
        apply List.ext_getElem
        · simp [hxl]
        · intro i h1 h2
          have : i < rs.length := by simpa using h2
          simp [this]
      rw [em]
      refine ⟨_, rfl, b, rfl, ⟨_, SqL.of upd_same⟩, ?_⟩
      refine comp_listF isE (by rw [List.length_map, ← hxl]; exact hx12) (SqL.of upd_same) (fun x H2 Q2 hx s2 k => ?_) (fun x H2 Q2 hx s2 k => ?_) (fun H2 s2 c hc => ?_)
      · obtain ⟨r, _, rfl⟩ := List.mem_map.mp hx
        exact ⟨_, rfl, rfl, _, rfl, k H2 (Same.refl H2)⟩
      · exact ⟨_, rfl, k H2 (Same.refl H2)⟩
      · exact q c _ (sm.free ((Same.new hb).free (s2.free hc))) (sm.trans ((Same.new hb).trans (s2.put hc))) upd_same

theorem ok_is_clash {C : Nat → Addr} (T : Tx K mg C) {f : Addr} {fd : FuncData} (F : Fun K "is_clash" "is_clash" s_is_clash f fd) : FnOk P w K mg base CX0 5 f fd psPIsClash (spClash2 C) := by
  obtain ⟨f_bound, fd_bound, A_bound, M_bound⟩ := T.m_Part_bound
  have G_bound : FnOk P w K mg base CX0 4 f_bound fd_bound psPMPartBound (spBound1 C) := ok_m_Part_bound T A_bound.F
  refine F.ok scPIsClash (fun vs H Q E h => ?_) (fun cdv A outer s H vs Q E hr h => ?_)
  · obtain ⟨p, l, la, ys, zs, ns, rfl, _⟩ := h
    rfl
  · obtain ⟨p, l, la, ys, zs, ns, rfl, hp, g, h12, hn, hl, q⟩ := h
    have hr4 : Room 4 _ := hr
    refine ⟨_, QSs.h (qss_one (qs_ret (pe_callB (call_any rfl) (by rfl) T.any PyProof.Rows.boot_any (pa_cons (pe_comp (N := ["name", "addresses", "part"]) [none, some 1, some 0] rfl (by kernel_rfl) (pi_list (pe_meth0 (pv 0) T.pt.cl.cl M_bound G_bound hr4 A_bound.b .nil pass0)) (fun cl C fp s H => (pg_name (i := 0) (by decide +kernel : (["name", "addresses", "part"] : List Str).Nodup) rfl (Or.inl rfl))) (fun cl C fp s H => pf_nil) (fun cl C fp s H => (pe_cmpR (op_inK (K := K) rfl) (pe_op op_add_str (pe_op op_add_str (pe_fldK (K := K) rfl (pv 2) rfl) pe_str) (pv 0)) (pv 1) (by rfl)))) pa_nil)))), ?_⟩
    obtain ⟨dx, fs, ea, a1, a2, a3, a4, a5, hr0⟩ := id hp
    have hfl : (zs.map V.str).all flatV = true := by rw [List.all_eq_true]; intro v hv; obtain ⟨z, _, rfl⟩ := List.mem_map.mp hv; rfl
    have hg : GoodRs (ns.map letR) := ⟨by rw [List.length_map]; exact h12, fun r hr => by obtain ⟨n, hm, rfl⟩ := List.mem_map.mp hr; exact letR_ok (hn n hm)⟩
    refine ⟨_, rfl, p, dx, fs, rfl, ea, a3, p, _, l, _, rfl, hp, hg, lets_of ns, fun b H1 hb s1 hbl => ?_⟩
    rw [names_let hn] at hbl
    refine ⟨b, rfl, ⟨_, SqL.of hbl⟩, ?_⟩
    let bs : List Bool := ns.map fun n => decide (dotted ys ++ "." ++ n ∈ zs)
    have hbs : bs.length = ns.length := List.length_map _
    refine comp_listI (fun i => V.bl (bs.getD i false)) (Nat.le_trans (show (ns.map V.str).length ≤ 12 by rw [List.length_map]; exact h12) (by decide)) (SqL.of hbl) (fun i x H' Q' hx sm k => ?_) (fun H' sm c hc => ?_)
    · rw [List.getElem?_map] at hx
      cases en : ns[i]? with
      | none => rw [en] at hx; cases hx
      | some n =>
        rw [en] at hx
        cases hx
        have s2 := s1.trans sm
        have h8 : n.length ≤ 8 := (hn n (List.mem_of_getElem? en)).hi
        have h36 := g.len
        refine ⟨_, rfl, rdF (s2 _ _ ea) T.pt.cl.cl T.pt.na a1 ⟨_, _, rfl, rfl, abS h36 (show (("." : Str)).length ≤ 1 by decide +kernel), _, rfl, _, _, rfl, rfl, abS (alS h36 (show (("." : Str)).length ≤ 1 by decide +kernel)) h8, _, rfl, la, _, rfl, .inl (SqL.of (s2 _ _ hl)), rfl, hfl, ?_⟩⟩
        have k2 : Q' (V.bl (bs.getD i false)) H' := k H' (Same.refl _)
        have e1 : bs.getD i false = inV (V.str (dotted ys ++ "." ++ n)) (zs.map V.str) := by
          rw [in_dec]
          show (ns.map fun n => decide (dotted ys ++ "." ++ n ∈ zs)).getD i false = _
          rw [List.getD_eq_getElem?_getD, List.getElem?_map, en]
          rfl
        rw [e1] at k2
        exact k2
    · have em : (List.range (ns.map V.str).length).map (fun i => V.bl (bs.getD i false)) = bs.map V.bl := by
        apply List.ext_getElem
        · simp [hbs]
        · intro i h1 h2
          have : i < bs.length := by simpa using h2
          simp [this]
      refine ⟨c, bs, rfl, SqL.of (upd_same.trans (by rw [em])), ?_⟩
      show Q (V.bl (bs.any id)) _
      refine q _ ?_ _ ((s1.trans sm).put hc)
      show (ns.map fun n => decide (dotted ys ++ "." ++ n ∈ zs)).any id = true ↔ _
      rw [List.any_map, List.any_eq_true]
      exact ⟨fun ⟨n, h1, h2⟩ => ⟨n, h1, of_decide_eq_true h2⟩, fun ⟨n, h1, h2⟩ => ⟨n, h1, decide_eq_true h2⟩⟩

theorem ok_check_parts {C : Nat → Addr} (T : Tx K mg C) {f : Addr} {fd : FuncData} (F : Fun K "check_parts" "check_parts" s_check_parts f fd) : FnOk P w K mg base (CX1 P w) 6 f fd psPCheckParts (spCheck2 C) := by
  obtain ⟨f_is_orphan, fd_is_orphan, A_is_orphan⟩ := T.a_is_orphan
  have G_is_orphan : FnOk P w K mg base CX0 2 f_is_orphan fd_is_orphan psPIsOrphan (spOrphan2 C) := ok_is_orphan T A_is_orphan.F
  obtain ⟨f_is_clash, fd_is_clash, A_is_clash⟩ := T.a_is_clash
  have G_is_clash : FnOk P w K mg base CX0 5 f_is_clash fd_is_clash psPIsClash (spClash2 C) := ok_is_clash T A_is_clash.F
  obtain ⟨f_i_TooMany, fd_i_TooMany, A_i_TooMany⟩ := T.i_TooMany
  have G_i_TooMany : FnOk P w K mg base CX0 1 f_i_TooMany fd_i_TooMany psPITooMany (spIniI (C 22)) := ok_i_TooMany T A_i_TooMany.F
  obtain ⟨f_i_Double, fd_i_Double, A_i_Double⟩ := T.i_Double
  have G_i_Double : FnOk P w K mg base CX0 1 f_i_Double fd_i_Double psPIDouble (spIniI (C 23)) := ok_i_Double T A_i_Double.F
  obtain ⟨f_i_Orphan, fd_i_Orphan, A_i_Orphan⟩ := T.i_Orphan
  have G_i_Orphan : FnOk P w K mg base CX0 1 f_i_Orphan fd_i_Orphan psPIOrphan (spIniI (C 24)) := ok_i_Orphan T A_i_Orphan.F
  obtain ⟨f_i_Clash, fd_i_Clash, A_i_Clash⟩ := T.i_Clash
  have G_i_Clash : FnOk P w K mg base CX0 1 f_i_Clash fd_i_Clash psPIClash (spIniI (C 25)) := ok_i_Clash T A_i_Clash.F
  refine F.okX scPCheckParts (fun vs H Q E h => ?_) (fun cdv A outer s H vs Q E hr h => ?_)
  · obtain ⟨l, ds, rfl, _⟩ := h
    rfl
  · obtain ⟨l, ds, rfl, hps, h200, hg, q⟩ := h
    have hr2 : Room 2 _ := hr.mono (by decide)
    have hr5 : Room 5 _ := hr
    refine ⟨_, QSs.h (qss_cons (qs_comp (N := ["part"]) [none] (i := 1) scPCheckParts.nd rfl (Or.inl rfl) rfl (by kernel_rfl) (pi_list (pv 0)) (fun cl C fp s H => (pg_name (i := 0) (by decide +kernel : (["part"] : List Str).Nodup) rfl (Or.inl rfl))) (fun cl C fp s H => pf_nil) (fun cl C fp s H => (pe_fldK (K := K) rfl (pv 0) rfl)))
      (qss_one (qs_for PassesOwn.leaving rfl (pi_enum (K := K) rfl (by rfl) T.enumerate (pa_cons (pv 0) pa_nil)) (pg_tupK (K := K) (n := 2) rfl rfl (pgs_cons (pg_name (i := 2) scPCheckParts.nd rfl (Or.inl rfl)) (pgs_cons (pg_name (i := 3) scPCheckParts.nd rfl (Or.inl rfl)) pgs_nil)))
      (qss_cons (qs_if (pt_cmpR op_ge (pv 2) (pgl_int T.g_MOST_PARTS) (nomark _)) (qss_one (qs_raise wish_def rfl (xmake A_i_TooMany G_i_TooMany hr2 T.c_TooMany T.x_TooMany (pa_cons (pv 2) pa_nil)))) qss_nil)
      (qss_cons (qs_if (pt_cmpR op_in_seq (pe_fld (pv 3) rfl) (pe_slice sl_list (pv 1) po_none (po_some (pv 2))) (by rfl)) (qss_one (qs_raise wish_def rfl (xmake A_i_Double G_i_Double hr2 T.c_Double T.x_Double (pa_cons (pv 2) pa_nil)))) qss_nil)
      (qss_cons (qs_if (pt_val (pcall A_is_orphan G_is_orphan hr2 (pa_cons (pv 3) (pa_cons (pv 1) pa_nil)))) (qss_one (qs_raise wish_def rfl (xmake A_i_Orphan G_i_Orphan hr2 T.c_Orphan T.x_Orphan (pa_cons (pv 2) pa_nil)))) qss_nil)
      (qss_one (qs_if (pt_val (pcall A_is_clash G_is_clash hr5 (pa_cons (pv 3) (pa_cons (pv 1) pa_nil)))) (qss_one (qs_raise wish_def rfl (xmake A_i_Clash G_i_Clash hr2 T.c_Clash T.x_Clash (pa_cons (pv 2) pa_nil)))) qss_nil)))))))), ?_⟩
    obtain ⟨xs, hl, hxl, hxt⟩ := id hps
    rw [List.length_map] at hxl
    have hx12 : xs.length ≤ sizeLine := Nat.le_trans (show xs.length ≤ 200 by omega) (by decide)
    have at_ : ∀ {i : Nat} {x : V}, xs[i]? = some x → ∃ (d : D2) (a lr : Addr), ds[i]? = some d ∧ x = .ref a ∧ PartAt C H a (dotted d.ad) lr (d.ns.map letR) := fun {i x} hx => by
      have hi : i < ds.length := by rw [← hxl]; exact (List.getElem?_eq_some_iff.mp hx).1
      obtain ⟨a, lr, e2, pa⟩ := hxt i (partD ds[i]) (by rw [List.getElem?_map, List.getElem?_eq_getElem hi]; rfl)
      rw [hx] at e2
      exact ⟨ds[i], a, lr, List.getElem?_eq_getElem hi, Option.some.inj e2, pa⟩
    refine ⟨_, rfl, l, rfl, ⟨_, SqL.of hl⟩, comp_listI (fun i => ((adsOf ds).map V.str).getD i .non) hx12 (SqL.of hl) (fun i x H' Q' hx sm k => ?_) (fun H1 s1 b hb => ?_)⟩
    · obtain ⟨d, a, lr, ed, rfl, pa⟩ := at_ hx
      obtain ⟨dx, fs, ea, a1, _⟩ := pa.same sm
      have k2 : Q' (((adsOf ds).map V.str).getD i .non) H' := k H' (Same.refl _)
      have e : ((adsOf ds).map V.str).getD i .non = V.str (dotted d.ad) := by
        rw [List.getD_eq_getElem?_getD, List.getElem?_map]
        unfold adsOf
        rw [List.getElem?_map, ed]
        rfl
      rw [e] at k2
      exact ⟨_, rfl, rdF ea T.pt.cl.cl T.pt.na a1 k2⟩
    have em : (List.range xs.length).map (fun i => ((adsOf ds).map V.str).getD i .non) = (adsOf ds).map V.str := by
      apply List.ext_getElem
      · simp [hxl]
      · intro i h1 h2
        have : i < ds.length := by simpa using h2
        simp [this]
    rw [em]
    have s2 : Same H (upd H1 b (.lst ((adsOf ds).map V.str))) := s1.put hb
    have hb2 : (upd H1 b (.lst ((adsOf ds).map V.str))) b = some (.lst ((adsOf ds).map V.str)) := upd_same
    generalize upd H1 b (.lst ((adsOf ds).map V.str)) = H2 at s2 hb2
    have hfl : ∀ zs : List Str, (zs.map V.str).all flatV = true := fun zs => by rw [List.all_eq_true]; intro v hv; obtain ⟨z, _, rfl⟩ := List.mem_map.mp hv; rfl
    refine ⟨_, rfl, l, rfl, ⟨xs, SqL.of (s2 _ _ hl)⟩, ?_⟩
    refine for_enum (xs := xs) (fun i σ H' => ∃ v2 v3, σ = [some (.ref l), some (.ref b), v2, v3] ∧ Same H2 H' ∧ ∀ (j : Nat) d, j < i → ds[j]? = some d → dueAt (adsOf ds) j d = 0) ⟨none, none, rfl, Same.refl _, fun j d hj => absurd hj (Nat.not_lt_zero _)⟩ (fun i σ H' hi hv => ?_) (fun i x p0 σ H' hx hv hp0 => ?_) (fun σ H' hv => ?_)
    · obtain ⟨v2, v3, rfl, sm, _⟩ := hv
      exact SqL.of (sm _ _ (s2 _ _ hl))
    · obtain ⟨v2, v3, rfl, sm, hok⟩ := hv
      obtain ⟨d, a, lr, ed, rfl, pa0⟩ := at_ hx
      have hi : i < ds.length := (List.getElem?_eq_some_iff.mp ed).1
      have gd := hg d (List.mem_of_getElem? ed)
      have hlog : ((0 + (i : Int))).natAbs.log2 < 1920 := by
        have : ((0 + (i : Int))).natAbs < 2 ^ 1920 := Nat.lt_of_le_of_lt (show _ ≤ 200 by omega) (by decide)
        by_cases z : ((0 + (i : Int))).natAbs = 0
        · rw [z]; decide
        · exact (Nat.log2_lt z).mpr this
      have s3 : Same H (upd H' p0 (.tup [.int (0 + (i : Int)), .ref a])) := (s2.trans sm).put hp0
      have s23 : Same H2 (upd H' p0 (.tup [.int (0 + (i : Int)), .ref a])) := sm.put hp0
      obtain ⟨dx, fs, ea, a1, _⟩ := pa0.same s3
      refine ⟨p0, _, rfl, SqT.of upd_same, rfl, _, _, rfl, _, _, rfl, rfl, ?_⟩
      have raise_ : ∀ {c : Nat} {H4 : Hp} {x p : Addr}, Same H H4 → 1 ≤ c → c ≤ 4 → dueAt (adsOf ds) i d = c → H4 x = none → (upd H4 x (ExO true x (C (21 + c)) none)) p = none → p ≠ x →
          E (.ref x) none (upd (upd (upd (upd H4 x (ExO true x (C (21 + c)) none)) p (XdO p [("at", .int (0 + (i : Int)))])) x (ExO true x (C (21 + c)) (some p))) x (ExO false x (C (21 + c)) (some p))) := fun {c H4 x p} s4 h1 h4 hd hx hp hne => by
        refine (q c i ⟨hok, .inr ⟨h1, h4, d, ed, hd⟩⟩).2 h1 x _ (s4.trans ((((Same.new hx).put hp).over hx).over hx)) ⟨h1, h4, p, upd_same, ?_⟩
        rw [upd_ne hne, upd_ne hne]
        exact upd_same.trans (by rw [Int.zero_add])
      by_cases h1 : 12 ≤ i
      · refine ⟨_, rfl, _, _, rfl, rfl, _, rfl, iteTb (decide_eq_true (by omega)) ?_⟩
        exact ⟨_, rfl, fun x hx => ⟨x, _, rfl, upd_same, hlog, fun p hp hne => ⟨rfl, x, C 22, some p, rfl, upd_same, T.x_TooMany, raise_ (c := 1) s3 (by decide) (by decide) (due1 h1) hx hp hne⟩⟩⟩
      refine ⟨_, rfl, _, _, rfl, rfl, _, rfl, iteFb (decide_eq_false (by omega)) ?_⟩
      refine ⟨_, rfl, rdF ea T.pt.cl.cl T.pt.na a1 ⟨_, rfl, _, rfl, _, rfl, b, _, rfl, SqL.of (s23 _ _ hb2), fun c hc => ?_⟩⟩
      have s4 : Same H (upd (upd H' p0 (.tup [.int (0 + (i : Int)), .ref a])) c (.lst (cutV ((adsOf ds).map V.str) none (some (0 + (i : Int)))))) := s3.put hc
      have s24 : Same H2 (upd (upd H' p0 (.tup [.int (0 + (i : Int)), .ref a])) c (.lst (cutV ((adsOf ds).map V.str) none (some (0 + (i : Int)))))) := s23.put hc
      have ec : cutV ((adsOf ds).map V.str) none (some (0 + (i : Int))) = ((adsOf ds).take i).map V.str := by rw [Int.zero_add, cut_to, List.map_take]
      have hc4 : (upd (upd H' p0 (.tup [.int (0 + (i : Int)), .ref a])) c (.lst (cutV ((adsOf ds).map V.str) none (some (0 + (i : Int)))))) c = some (.lst (((adsOf ds).take i).map V.str)) := upd_same.trans (by rw [ec])
      generalize upd (upd H' p0 (.tup [.int (0 + (i : Int)), .ref a])) c (.lst (cutV ((adsOf ds).map V.str) none (some (0 + (i : Int))))) = H4 at s4 s24 hc4
      by_cases h2 : dotted d.ad ∈ (adsOf ds).take i
      · refine ⟨c, ((adsOf ds).take i).map V.str, rfl, .inl (SqL.of hc4), rfl, hfl _, _, rfl, iteTb (by rw [in_dec, decide_eq_true h2]; rfl) ?_⟩
        exact ⟨_, rfl, fun x hx => ⟨x, _, rfl, upd_same, hlog, fun p hp hne => ⟨rfl, x, C 23, some p, rfl, upd_same, T.x_Double, raise_ (c := 2) s4 (by decide) (by decide) (due2 h1 h2) hx hp hne⟩⟩⟩
      refine ⟨c, ((adsOf ds).take i).map V.str, rfl, .inl (SqL.of hc4), rfl, hfl _, _, rfl, iteFb (by rw [in_dec, decide_eq_false h2]; rfl) ?_⟩
      refine ⟨_, rfl, _, rfl, a, lr, b, d.ad, adsOf ds, _, rfl, pa0.same s4, gd.ad, s24 _ _ hb2, fun bo ho H5 s5 => ⟨_, rfl, ?_⟩⟩
      have s5' := s4.trans s5
      have s25 := s24.trans s5
      cases bo with
      | true =>
        refine iteT ⟨_, rfl, fun x hx => ⟨x, _, rfl, upd_same, hlog, fun p hp hne => ⟨rfl, x, C 24, some p, rfl, upd_same, T.x_Orphan, raise_ (c := 3) s5' (by decide) (by decide) (due3 h1 h2 (ho.mp rfl)) hx hp hne⟩⟩⟩
      | false =>
        have h3 : ¬ (d.ad.dropLast ≠ [] ∧ dotted d.ad.dropLast ∉ adsOf ds) := fun z => Bool.noConfusion (ho.mpr z)
        refine iteF ⟨_, rfl, _, rfl, a, lr, b, d.ad, adsOf ds, d.ns, rfl, pa0.same s5', gd.ad, gd.hi, gd.nm, s25 _ _ hb2, fun bo ho H6 s6 => ⟨_, rfl, ?_⟩⟩
        cases bo with
        | true =>
          refine iteT ⟨_, rfl, fun x hx => ⟨x, _, rfl, upd_same, hlog, fun p hp hne => ⟨rfl, x, C 25, some p, rfl, upd_same, T.x_Clash, raise_ (c := 4) (s5'.trans s6) (by decide) (by decide) (due4 h1 h2 h3 (ho.mp rfl)) hx hp hne⟩⟩⟩
        | false =>
          refine iteF ⟨_, _, rfl, s25.trans s6, fun j e hj he => ?_⟩
          rcases Nat.lt_or_eq_of_le (Nat.le_of_lt_succ hj) with z | rfl
          · exact hok j e z he
          · rw [ed] at he
            cases he
            exact due0 h1 h2 h3 fun z => Bool.noConfusion (ho.mpr z)
    · obtain ⟨v2, v3, rfl, sm, hok⟩ := hv
      rw [hxl] at hok
      exact (q 0 ds.length ⟨hok, .inl ⟨rfl, rfl⟩⟩).1 rfl _ (s2.trans sm)

theorem ok_m_House___init__ {C : Nat → Addr} (T : Tx K mg C) {f : Addr} {fd : FuncData} (F : Fun K "__init__" "House.__init__" s_m_House___init__ f fd) : FnOk P w K mg base (CX1 P w) 7 f fd psPMHouseInit (spHIni2 C) := by
  obtain ⟨f_check_parts, fd_check_parts, A_check_parts⟩ := T.a_check_parts
  have G_check_parts : FnOk P w K mg base (CX1 P w) 6 f_check_parts fd_check_parts psPCheckParts (spCheck2 C) := ok_check_parts T A_check_parts.F
  refine F.okX scPMHouseInit (fun vs H Q E h => ?_) (fun cdv A outer s H vs Q E hr h => ?_)
  · obtain ⟨x, dx, d, ds, xs, rfl, _⟩ := h
    rfl
  · obtain ⟨x, dx, d, ds, xs, rfl, hx, hl0, hps, h200, hg, q⟩ := h
    have hr6 : Room 6 _ := hr
    refine ⟨_, QSs.h (qss_cons (qs_expr (pcallX A_check_parts G_check_parts hr6 wish_def (pa_cons (pv 1) pa_nil)))
      (qss_one (qs_fld (pv 0) (pe_callTy call_list_of (by rfl) T.t_list PyProof.Rows.boot_list (pa_cons (pv 1) pa_nil))))), ?_⟩
    refine ⟨_, rfl, d, ds, rfl, ⟨xs, hl0, hps.1, hps.2⟩, h200, hg, fun c i hd => ⟨fun hc H1 s1 => ?_, fun hc => (q c i hd).2 hc⟩⟩
    have hl := s1 _ _ hl0
    have hx1 := s1 _ _ hx
    refine ⟨_, rfl, d, _, rfl, .inl (SqL.of hl), fun l hl0 => ⟨_, rfl, x, _, dx, _, rfl, (by rw [upd_ne (ne_of_none hx1 hl0)]; exact hx1), T.hs.cl.cl, T.hs.nt, Nat.lt_of_lt_of_le Nat.zero_lt_one (by decide), ?_⟩⟩
    have hlx : l ≠ x := (ne_of_none hx1 hl0).symm
    have sb : SameBut x H1 (upd (upd H1 l (.lst xs)) x (.ins (C 8) dx (putF "told" (.ref l) []))) := sb2 hl0
    exact (q c i hd).1 hc l _ (s1.free hl0) (fun bb o e hb => sb bb o (s1 _ _ e) hb) ⟨dx, _, upd_same, lkP, lkN (by decide +kernel), lkN (by decide +kernel), lkN (by decide +kernel)⟩ (by rw [upd_ne hlx]; exact upd_same)

theorem ok_m_House_addresses {C : Nat → Addr} (T : Tx K mg C) {f : Addr} {fd : FuncData} (F : Fun K "addresses" "House.addresses" s_m_House_addresses f fd) : FnOk P w K mg base CX0 1 f fd psPMHouseAddresses (spHAddr C) := by
  refine F.ok scPMHouseAddresses (fun vs H Q E h => ?_) (fun cdv A outer s H vs Q E hr h => ?_)
  · obtain ⟨h0, l, ps, rfl, _⟩ := h
    rfl
  · obtain ⟨h0, l, ps, rfl, hh, g, q⟩ := h
    refine ⟨_, QSs.h (qss_one (qs_ret (pe_callB call_sortedS (by rfl) T.sorted PyProof.Rows.boot_sorted (pa_cons (pe_comp (N := ["part"]) [none] rfl (by kernel_rfl) (pi_list (pe_fld (pv 0) rfl)) (fun cl C fp s H => (pg_name (i := 0) (by decide +kernel : (["part"] : List Str).Nodup) rfl (Or.inl rfl))) (fun cl C fp s H => pf_nil) (fun cl C fp s H => (pe_fldK (K := K) rfl (pv 0) rfl))) pa_nil)))), ?_⟩
    obtain ⟨dx, fs, ea, a1, a2, a3, a4, xs, hl, hxl, hxt⟩ := id hh
    have h12 := g.hi
    have hx12 : xs.length ≤ sizeLine := Nat.le_trans (show xs.length ≤ 12 by omega) (by decide)
    refine ⟨_, rfl, rdF ea T.hs.cl.cl T.hs.nt a1 ⟨l, rfl, ⟨_, SqL.of hl⟩, comp_listI (fun i => ((adS ps).map V.str).getD i .non) hx12 (SqL.of hl) (fun i x H' Q' hx sm k => ?_) (fun H1 s1 b hb => ?_)⟩⟩
    · have hi : i < ps.length := by rw [← hxl]; exact (List.getElem?_eq_some_iff.mp hx).1
      obtain ⟨a, lr, e2, pa⟩ := hxt i ps[i] (List.getElem?_eq_getElem hi)
      obtain rfl : x = .ref a := by rw [hx] at e2; exact Option.some.inj e2
      obtain ⟨dx, fs, ea, a1, _⟩ := pa.same sm
      have k2 : Q' (((adS ps).map V.str).getD i .non) H' := k H' (Same.refl _)
      rw [ad_at hi] at k2
      exact ⟨_, rfl, rdF ea T.pt.cl.cl T.pt.na a1 k2⟩
    have hlen : (adS ps).length = ps.length := by unfold adS; rw [List.length_map]
    refine ⟨b, adS ps, rfl, SqL.of (upd_same.trans (by rw [ad_list hxl])), by omega, fun c zs h1 h2 hc => ?_⟩
    exact q c _ zs (s1.free ((Same.new hb).free hc)) ((s1.put hb).put hc) h1 h2 upd_same

theorem ok_law_words {C : Nat → Addr} (T : Tx K mg C) {f : Addr} {fd : FuncData} (F : Fun K "_law_words" "_law_words" s_law_words f fd) : FnOk P w K mg base CX0 2 f fd psWords spWords := by
  obtain ⟨f_law_pick, fd_law_pick, A_law_pick⟩ := T.a_law_pick
  have G_law_pick : FnOk P w K mg base CX0 1 f_law_pick fd_law_pick psPick spPick := ok_pick A_law_pick.F
  refine F.ok scWords (fun vs H Q E h => ?_) (fun cdv A outer s H vs Q E hr h => ?_)
  · obtain ⟨c, rfl, _⟩ := h
    rfl
  · obtain ⟨c, rfl, q⟩ := h
    have hr1 : Room 1 _ := hr
    refine ⟨_, QSs.h (qss_cons (qs_set (i := 1) scWords.nd rfl (Or.inr rfl) pe_str)
      (qss_cons (qs_set (i := 2) scWords.nd rfl (Or.inr rfl) (pe_comp (N := ["_law_k", "_law_letters", "_law_cell_here"]) [none, some 1, some 0] rfl (by kernel_rfl) (pi_range1 (by rfl) T.range (pa_cons pe_int pa_nil)) (fun cl C fp s H => (pg_name (i := 0) (by decide +kernel : (["_law_k", "_law_letters", "_law_cell_here"] : List Str).Nodup) rfl (Or.inl rfl))) (fun cl C fp s H => pf_nil) (fun cl C fp s H => (pe_ix ix_str (pv 1) (pcall A_law_pick G_law_pick hr1 (pa_cons (pv 2) (pa_cons (pe_op op_add pe_int (pv 0)) (pa_cons pe_int pa_nil)))) (fun _ _ => rfl)))))
      (qss_cons (qs_if (pt_cmpR op_eq (pcall A_law_pick G_law_pick hr1 (pa_cons (pv 0) (pa_cons pe_int (pa_cons pe_int pa_nil)))) pe_int (nomark _)) (qss_one (qs_ret (pe_comp (N := ["_law_k", "_law_base"]) [none, some 2] rfl (by kernel_rfl) (pi_range1 (by rfl) T.range (pa_cons pe_int pa_nil)) (fun cl C fp s H => (pg_name (i := 0) (by decide +kernel : (["_law_k", "_law_base"] : List Str).Nodup) rfl (Or.inl rfl))) (fun cl C fp s H => pf_nil) (fun cl C fp s H => (pe_bmK (K := K) rfl PySem.F.plainAttrs_str PySem.F.slot_str_join PySem.F.type_str_join (mt_joinK rfl) pe_str (pa_cons (pe_slice (sl_listK (K := K) rfl) (pv 1) po_none (po_some (pe_op op_add (pv 0) pe_int))) pa_nil)))))) qss_nil)
      (qss_cons (qs_if (pt_cmpR op_eq (pcall A_law_pick G_law_pick hr1 (pa_cons (pv 0) (pa_cons pe_int (pa_cons pe_int pa_nil)))) pe_int (nomark _)) (qss_one (qs_ret (qe_lst (qa_cons pe_str (qa_cons pe_str (qa_cons pe_str (qa_cons pe_str (qa_cons pe_str (qa_cons pe_str (qa_cons pe_str (qa_cons pe_str qa_nil))))))))))) qss_nil)
      (qss_cons (qs_set (i := 3) scWords.nd rfl (Or.inl rfl) (pe_op op_add pe_int (pcall A_law_pick G_law_pick hr1 (pa_cons (pv 0) (pa_cons pe_int (pa_cons pe_int pa_nil))))))
      (qss_cons (qs_set (i := 4) scWords.nd rfl (Or.inl rfl) (pcall A_law_pick G_law_pick hr1 (pa_cons (pv 0) (pa_cons pe_int (pa_cons (pv 3) pa_nil)))))
      (qss_cons (qs_set (i := 5) scWords.nd rfl (Or.inr rfl) (pcall A_law_pick G_law_pick hr1 (pa_cons (pv 0) (pa_cons pe_int (pa_cons pe_int pa_nil)))))
      (qss_cons (qs_set (i := 6) scWords.nd rfl (Or.inr rfl) (pe_bm PySem.F.plainAttrs_str PySem.F.slot_str_join PySem.F.type_str_join mt_join pe_str (pa_cons (pe_slice sl_list (pv 2) po_none (po_some (pv 4))) pa_nil)))
      (qss_cons (qs_set (i := 7) scWords.nd rfl (Or.inr rfl) (pe_bm PySem.F.plainAttrs_str PySem.F.slot_str_join PySem.F.type_str_join mt_join pe_str (pa_cons (pe_slice sl_list (pv 2) (po_some (pe_op op_add (pv 4) pe_int)) (po_some (pv 3))) pa_nil)))
      (qss_one (qs_ret (pe_comp (N := ["_law_k", "_law_tail", "_law_head", "_law_letters", "_law_first"]) [none, some 7, some 6, some 1, some 5] rfl (by kernel_rfl) (pi_range1 (by rfl) T.range (pa_cons pe_int pa_nil)) (fun cl C fp s H => (pg_name (i := 0) (by decide +kernel : (["_law_k", "_law_tail", "_law_head", "_law_letters", "_law_first"] : List Str).Nodup) rfl (Or.inl rfl))) (fun cl C fp s H => pf_nil) (fun cl C fp s H => (pe_op op_add_str (pe_op op_add_str (pv 2) (pe_ix ix_str (pv 3) (pe_op op_mod (pe_op op_add (pv 4) (pv 0)) pe_int) (fun _ _ => rfl))) (pv 1))))))))))))))), ?_⟩
    refine ⟨_, rfl, by decide, by decide, comp_rangeP (fun i v H' => ∃ b : Int, v = V.str (lt1 b) ∧ 0 ≤ b ∧ b < 26) (fun i v H' H'' h _ => h) (by show 8 ≤ sizeLine; decide) (fun i H' Q' hi sm k' => ?_) (fun xs H1 s1 hl hx B hB => ?_)⟩
    · have hi' : i < 8 := hi
      exact ⟨_, rfl, _, rfl, _, rfl, _, _, rfl, rfl, c, 8 + (0 + (i : Int)), 26, rfl, by omega, by omega, by decide, fun H5 s5 => ⟨letters, _, _, rfl, rfl, by decide +kernel, lat (pick_ge c _ (by decide)) (pick_lt c _ (by decide)), k' _ H5 s5 ⟨_, rfl, pick_ge c _ (by decide), pick_lt c _ (by decide)⟩⟩⟩
    obtain ⟨bs, hbl, rfl, hbr⟩ := lts_of hx
    have hb8 : bs.length = 8 := by rw [List.length_map, List.length_map] at hl; exact hl
    have s02 : Same H (upd H1 B (.lst ((bs.map lt1).map V.str))) := s1.put hB
    have hB2 : (upd H1 B (.lst ((bs.map lt1).map V.str))) B = some (.lst ((bs.map lt1).map V.str)) := upd_same
    generalize upd H1 B (.lst ((bs.map lt1).map V.str)) = H2 at s02 hB2
    refine ⟨_, rfl, c, 2, 4, rfl, by decide, by decide, by decide, fun H3 s3 => ⟨rfl, _, rfl, ite2d (fun _ => ?_) (fun _ => ?_)⟩⟩
    · refine ⟨_, rfl, by decide, by decide, comp_rangeP (fun i v H' => v = V.str (wdOf (bs.take (i + 1)))) (fun i v H' H'' h _ => h) (by show 8 ≤ sizeLine; decide) (fun i H' Q' hi sm k' => ?_) (fun xs H4 s4 hl4 hx4 l hl0 => ?_)⟩
      · have hi' : i < 8 := hi
        have ec : cutV ((bs.map lt1).map V.str) none (some (0 + (i : Int) + 1)) = ((bs.take (i + 1)).map lt1).map V.str := by
          rw [cut_strs _ (by omega), show (0 + (i : Int) + 1).toNat = i + 1 from by omega]
          simp only [List.map_take]
        have h8 : (bs.take (i + 1)).length ≤ 8 := by rw [List.length_take]; omega
        exact ⟨rfl, _, rfl, _, rfl, _, _, rfl, rfl, _, rfl, B, _, rfl, SqL.of ((s3.trans sm) _ _ hB2), fun w hw => ⟨_, w, (bs.take (i + 1)).map lt1, rfl, rfl, .inl (SqL.of (upd_same.trans (by rw [ec]))), lt_bound h8, k' _ _ (Same.new hw) (congrArg V.str (wd_joinL _))⟩⟩
      · obtain rfl : xs = (prefN bs).map V.str := (vals_of (fun i => V.str (wdOf (bs.take (i + 1)))) hl4 hx4).trans (by unfold prefN; rw [List.map_map]; rfl)
        exact q l _ (prefN bs) ((s02.trans (s3.trans s4)).free hl0) ((s02.trans (s3.trans s4)).put hl0) (by unfold prefN; rw [List.length_map, List.length_range]) (pref_nm hbr hb8) upd_same
    refine ⟨_, rfl, c, 2, 4, rfl, by decide, by decide, by decide, fun H4 s4 => ⟨rfl, _, rfl, ite2d (fun _ => ?_) (fun _ => ?_)⟩⟩
    · exact ⟨by show 8 ≤ sizeLine; decide, fun l hl0 => q l _ ownW ((s02.trans (s3.trans s4)).free hl0) ((s02.trans (s3.trans s4)).put hl0) rfl ownW_nm upd_same⟩
    have s04 := s02.trans (s3.trans s4)
    have z1 := pick_ge c 3 (m := 8) (by decide)
    have z2 := pick_lt c 3 (m := 8) (by decide)
    refine ⟨_, rfl, c, 3, 8, rfl, by decide, by decide, by decide, fun H5 s5 => ⟨_, _, rfl, rfl, ?_⟩⟩
    generalize pick c 3 8 = sz at z1 z2
    have o1 := pick_ge c 4 (m := 1 + sz) (by omega)
    have o2 := pick_lt c 4 (m := 1 + sz) (by omega)
    refine ⟨_, rfl, _, rfl, c, 4, 1 + sz, rfl, by decide, by decide, by omega, fun H6 s6 => ?_⟩
    generalize pick c 4 (1 + sz) = at_ at o1 o2
    have f1 := pick_ge c 5 (m := 26) (by decide)
    refine ⟨_, rfl, c, 5, 26, rfl, by decide, by decide, by decide, fun H7 s7 => ?_⟩
    generalize pick c 5 26 = fi at f1
    have s27 : Same H2 H7 := s3.trans (s4.trans (s5.trans (s6.trans s7)))
    have ha8 : (bs.take at_.toNat).length ≤ 8 := by rw [List.length_take]; omega
    have ec1 : cutV ((bs.map lt1).map V.str) none (some at_) = ((bs.take at_.toNat).map lt1).map V.str := by rw [cut_strs _ o1]; simp only [List.map_take]
    refine ⟨rfl, _, rfl, _, rfl, _, rfl, B, _, rfl, SqL.of (s27 _ _ hB2), fun w hw => ⟨_, w, (bs.take at_.toNat).map lt1, rfl, rfl, .inl (SqL.of (upd_same.trans (by rw [ec1]))), lt_bound ha8, ?_⟩⟩
    have s28 : Same H2 (upd H7 w (.lst (cutV ((bs.map lt1).map V.str) none (some at_)))) := s27.put hw
    generalize upd H7 w (.lst (cutV ((bs.map lt1).map V.str) none (some at_))) = H8 at s28
    have ew1 := wd_joinL (bs.take at_.toNat)
    generalize Txt.join ("" : Str) ((bs.take at_.toNat).map lt1) = hd at ew1
    subst ew1
    have hd8 : ((bs.drop (at_ + 1).toNat).take ((1 + sz).toNat - (at_ + 1).toNat)).length ≤ (1 + sz).toNat - (at_ + 1).toNat := List.length_take_le _ _
    have ec2 : cutV ((bs.map lt1).map V.str) (some (at_ + 1)) (some (1 + sz)) = (((bs.drop (at_ + 1).toNat).take ((1 + sz).toNat - (at_ + 1).toNat)).map lt1).map V.str := by
      rw [cut_mid _ (by omega) (by omega) (by rw [List.length_map]; omega) (by rw [List.length_map]; omega)]
      simp only [List.map_take, List.map_drop]
    refine ⟨rfl, _, rfl, _, rfl, _, _, rfl, rfl, _, rfl, _, rfl, _, rfl, B, _, rfl, SqL.of (s28 _ _ hB2), fun w2 hw2 => ⟨_, w2, ((bs.drop (at_ + 1).toNat).take ((1 + sz).toNat - (at_ + 1).toNat)).map lt1, rfl, rfl, .inl (SqL.of (upd_same.trans (by rw [ec2]))), lt_bound (by omega), ?_⟩⟩
    have s29 : Same H2 (upd H8 w2 (.lst (cutV ((bs.map lt1).map V.str) (some (at_ + 1)) (some (1 + sz))))) := s28.put hw2
    generalize upd H8 w2 (.lst (cutV ((bs.map lt1).map V.str) (some (at_ + 1)) (some (1 + sz)))) = H9 at s29
    have ew2 := wd_joinL ((bs.drop (at_ + 1).toNat).take ((1 + sz).toNat - (at_ + 1).toNat))
    generalize Txt.join ("" : Str) (((bs.drop (at_ + 1).toNat).take ((1 + sz).toNat - (at_ + 1).toNat)).map lt1) = tl at ew2
    subst ew2
    have hdr : In26 ((bs.drop (at_ + 1).toNat).take ((1 + sz).toNat - (at_ + 1).toNat)) := fun k hk => hbr k (List.mem_of_mem_drop (List.mem_of_mem_take hk))
    generalize (bs.drop (at_ + 1).toNat).take ((1 + sz).toNat - (at_ + 1).toNat) = ds at hd8 hdr
    have hal : (bs.take at_.toNat).length ≤ at_.toNat := List.length_take_le _ _
    have har := hbr.take at_.toNat
    generalize bs.take at_.toNat = as at hal har
    refine ⟨_, rfl, by decide, by decide, comp_rangeP (fun i v H' => ∃ z, v = V.str z ∧ IsNm z) (fun i v H' H'' h _ => h) (by show 8 ≤ sizeLine; decide) (fun i H' Q' hi sm k' => ?_) (fun xs H10 s10 hl10 hx10 l hl0 => ?_)⟩
    · have la : (wdOf as).length ≤ 8 := by rw [wd_len]; omega
      have ld : (wdOf ds).length ≤ 8 := by rw [wd_len]; omega
      have m1 : 0 ≤ (fi + (0 + (i : Int))) % 26 := by omega
      have m2 : (fi + (0 + (i : Int))) % 26 < 26 := by omega
      exact ⟨_, rfl, _, rfl, _, rfl, _, rfl, _, _, rfl, rfl, _, _, rfl, rfl, by show (0 : Int) < 26; decide, letters, _, _, rfl, rfl, by decide +kernel, lat m1 m2, _, _, rfl, rfl, abS la (Nat.le_refl 1), _, rfl, _, _, rfl, rfl, abS (alS la (Nat.le_refl 1)) ld, k' _ H' (Same.refl _) ⟨_, rfl, wd_mid har hdr m1 m2 (by omega)⟩⟩
    · obtain ⟨ws, hwl, rfl, hwn⟩ := names_of hx10
      have h8 : ws.length = 8 := by rw [List.length_map] at hl10; exact hl10
      exact q l _ ws ((s02.trans (s29.trans s10)).free hl0) ((s02.trans (s29.trans s10)).put hl0) h8 hwn upd_same

theorem ok_law_addresses {C : Nat → Addr} (T : Tx K mg C) {f : Addr} {fd : FuncData} (F : Fun K "_law_addresses" "_law_addresses" s_law_addresses f fd) : FnOk P w K mg base CX0 2 f fd psAddresses spAdrs2 := by
  obtain ⟨f_law_pick, fd_law_pick, A_law_pick⟩ := T.a_law_pick
  have G_law_pick : FnOk P w K mg base CX0 1 f_law_pick fd_law_pick psPick spPick := ok_pick A_law_pick.F
  refine F.ok scAddresses (fun vs H Q E h => ?_) (fun cdv A outer s H vs Q E hr h => ?_)
  · obtain ⟨c, n, lw, ws, rfl, _⟩ := h
    rfl
  · obtain ⟨c, n, lw, ws, rfl, n1, n14, hlw, hw8, hwn, q⟩ := h
    have hr1 : Room 1 _ := hr
    refine ⟨_, QSs.h (qss_cons (qs_set (i := 3) scAddresses.nd rfl (Or.inl rfl) (pe_lst pa_nil))
      (qss_cons (qs_for PassesOwn.never rfl (pi_range1 (by rfl) T.range (pa_cons (pv 1) pa_nil)) (pg_name (i := 4) scAddresses.nd rfl (Or.inl rfl))
      (qss_cons (qs_set (i := 5) scAddresses.nd rfl (Or.inl rfl) (pe_op op_cat (pe_lst (pa_cons pe_str pa_nil)) (pe_comp (N := ["_law_one"]) [none] rfl (by kernel_rfl) (pi_list (pv 3)) (fun cl C fp s H => (pg_name (i := 0) (by decide +kernel : (["_law_one"] : List Str).Nodup) rfl (Or.inl rfl))) (fun cl C fp s H => (pf_one (pt_cmpR op_lt (pe_bmK (K := K) rfl PySem.F.plainAttrs_str PySem.F.slot_str_count PySem.F.type_str_count mt_count (pv 0) (pa_cons pe_str pa_nil)) pe_int (nomark _)))) (fun cl C fp s H => (pv 0)))))
      (qss_cons (qs_set (i := 6) scAddresses.nd rfl (Or.inl rfl) (pe_ix ix_list (pv 5) (pcall A_law_pick G_law_pick hr1 (pa_cons (pv 0) (pa_cons (pe_op op_mul pe_int (pv 4)) (pa_cons (pe_callB call_len_seq (by rfl) T.len PySem.boot_len (pa_cons (pv 5) pa_nil)) pa_nil)))) (fun _ _ => rfl)))
      (qss_cons (qs_set (i := 7) scAddresses.nd rfl (Or.inl rfl) (pe_ix ix_list (pv 2) (pcall A_law_pick G_law_pick hr1 (pa_cons (pv 0) (pa_cons (pe_op op_add (pe_op op_mul pe_int (pv 4)) pe_int) (pa_cons pe_int pa_nil)))) (fun _ _ => rfl)))
      (qss_cons (qs_if (pt_cmpR op_ne (pv 6) pe_str (nomark _)) (qss_one (qs_set (i := 7) scAddresses.nd rfl (Or.inl rfl) (pe_op op_add_str (pe_op op_add_str (pv 6) pe_str) (pv 7)))) qss_nil)
      (qss_one (qs_if (pt_cmpR op_notIn_seq (pv 7) (pv 3) (by rfl)) (qss_one (qs_expr (pe_bm PySem.F.plainAttrs_list PySem.F.slot_list_append PySem.F.type_list_append mt_append (pv 3) (pa_cons (pv 7) pa_nil)))) qss_nil)))))))
      (qss_cons (qs_if (pt_cmpR op_eq (pcall A_law_pick G_law_pick hr1 (pa_cons (pv 0) (pa_cons pe_int (pa_cons pe_int pa_nil)))) pe_int (nomark _)) (qss_one (qs_expr (pe_bm0 PySem.F.plainAttrs_list PySem.F.slot_list_reverse PySem.F.type_list_reverse mt_reverse (pv 3)))) qss_nil)
      (qss_one (qs_ret (pv 3)))))), ?_⟩
    refine ⟨by show 0 ≤ sizeLine; decide, fun F hF => ?_⟩
    have s1 : Same H (upd H F (.lst [])) := Same.new hF
    have hF1 : (upd H F (.lst [])) F = some (.lst ((([] : List (List Str)).map dotted).map V.str)) := upd_same
    generalize upd H F (.lst []) = H1 at s1 hF1
    have hfl : ∀ zs : List Str, (zs.map V.str).all flatV = true := fun zs => by rw [List.all_eq_true]; intro v hv; obtain ⟨z, _, rfl⟩ := List.mem_map.mp hv; rfl
    refine ⟨_, rfl, _, rfl, by omega, by omega, ?_⟩
    refine for_range (fun i σ H2 => ∃ v4 v5 v6 v7, ∃ as : List (List Str), σ = [some (.int c), some (.int n), some (.ref lw), some (.ref F), v4, v5, v6, v7] ∧ Same H H2 ∧ H2 F = some (.lst ((as.map dotted).map V.str)) ∧ GoodAt as ∧ as.length ≤ i ∧ (0 < i → as ≠ []))
      ⟨none, none, none, none, [], rfl, s1, hF1, ⟨by decide, (fun a ha => by cases ha), List.Pairwise.nil, (fun a ha => by cases ha)⟩, Nat.le_refl _, fun z => absurd z (Nat.lt_irrefl _)⟩ ?_ ?_
    · rintro i σ H2 hi ⟨v4, v5, v6, v7, as, rfl, sm, hF2, g, hal, hane⟩
      have hi14 : i < 14 := by omega
      refine ⟨by show 1 ≤ sizeLine; decide, fun b hb => ?_⟩
      have sb : Same H2 (upd H2 b (.lst [V.str ""])) := Same.new hb
      have hb3 : (upd H2 b (.lst [V.str ""])) b = some (.lst [V.str ""]) := upd_same
      generalize upd H2 b (.lst [V.str ""]) = H3 at sb hb3
      have hlen : ((as.map dotted).map V.str).length ≤ 14 := by rw [List.length_map, List.length_map]; omega
      refine ⟨_, rfl, F, rfl, ⟨_, SqL.of (sb _ _ hF2)⟩, comp_listF (xs := (as.map dotted).map V.str) shortV (Nat.le_trans hlen (by decide)) (SqL.of (sb _ _ hF2)) (fun x H' Q' hx sm2 k => ?_) (fun x H' Q' hx sm2 k => ?_) (fun H4 s4 d hd => ?_)⟩
      · obtain ⟨z, _, rfl⟩ := List.mem_map.mp hx
        exact ⟨_, rfl, rfl, _, _, rfl, rfl, _, _, rfl, rfl, _, rfl, k H' (Same.refl _)⟩
      · exact ⟨_, rfl, k H' (Same.refl _)⟩
      have hflt : (((as.map dotted).map V.str).filter shortV).length ≤ 14 := Nat.le_trans (List.length_filter_le _ _) hlen
      have hbd : b ≠ d := (ne_of_none (s4 _ _ hb3) hd)
      refine ⟨b, d, _, _, rfl, rfl, by rw [upd_ne hbd]; exact s4 _ _ hb3, upd_same, Nat.le_trans (show 1 + _ ≤ 1 + 14 from Nat.add_le_add_left hflt 1) (by decide), fun e he => ?_⟩
      have s5 : Same H2 (upd (upd H4 d (.lst (((as.map dotted).map V.str).filter shortV))) e (.lst ([V.str ""] ++ ((as.map dotted).map V.str).filter shortV))) := ((sb.trans s4).put hd).put he
      have he5 : (upd (upd H4 d (.lst (((as.map dotted).map V.str).filter shortV))) e (.lst ([V.str ""] ++ ((as.map dotted).map V.str).filter shortV))) e = some (.lst ((("" : Str) :: (as.map dotted).filter fun z => shortV (.str z)).map V.str)) := upd_same.trans (by rw [filt_strs]; rfl)
      generalize upd (upd H4 d (.lst (((as.map dotted).map V.str).filter shortV))) e (.lst ([V.str ""] ++ ((as.map dotted).map V.str).filter shortV)) = H5 at s5 he5
      have hz0 : ∀ z ∈ ("" : Str) :: (as.map dotted).filter (fun z => shortV (.str z)), z = "" ∨ ∃ a ∈ as, z = dotted a ∧ a.length ≤ 2 := fun z hz => by
        rcases List.mem_cons.mp hz with rfl | hz
        · exact .inl rfl
        · have hm : V.str z ∈ ((as.map dotted).map V.str).filter shortV := by rw [filt_strs]; exact List.mem_map.mpr ⟨z, hz, rfl⟩
          obtain ⟨a, ha, ea, hl⟩ := short_of2 g hm
          exact .inr ⟨a, ha, V.str.inj ea, hl⟩
      have hne0 : (("" : Str) :: (as.map dotted).filter fun z => shortV (.str z)) ≠ [] := by simp
      generalize (("" : Str) :: (as.map dotted).filter fun z => shortV (.str z)) = zs at he5 hz0 hne0
      have hzl : 0 < (zs.length : Int) := by have := List.length_pos_iff.mpr hne0; omega
      obtain ⟨z, hz, eat⟩ := at_pick (c := c) (k := 2 * (0 + (i : Int))) hne0
      refine ⟨_, rfl, _, rfl, _, rfl, _, _, rfl, rfl, .inl ⟨by decide, by decide⟩, _, rfl, e, _, rfl, .inl (SqL.of he5), c, 2 * (0 + (i : Int)), zs.length, (by rw [List.length_map]; rfl), by omega, by omega, hzl, fun H6 s6 => ⟨e, _, _, _, rfl, rfl, SqL.of (s6 _ _ he5), eat, ?_⟩⟩
      have hw0 : ws ≠ [] := fun z => by rw [z] at hw8; cases hw8
      obtain ⟨w, hw, eaw⟩ := at_pick (c := c) (k := 2 * (0 + (i : Int)) + 1) hw0
      rw [hw8] at eaw
      have s26 : Same H2 H6 := s5.trans s6
      refine ⟨_, rfl, _, rfl, _, rfl, _, _, rfl, rfl, .inl ⟨by decide, by decide⟩, _, _, rfl, rfl, c, 2 * (0 + (i : Int)) + 1, 8, rfl, by omega, by omega, by decide, fun H7 s7 => ⟨lw, _, _, _, rfl, rfl, SqL.of ((sm.trans (s26.trans s7)) _ _ hlw), eaw, ?_⟩⟩
      have s27 : Same H2 H7 := s26.trans s7
      have nw := hwn w hw
      have hF7 := s27 _ _ hF2
      by_cases hz1 : z = ""
      · refine ⟨_, rfl, rfl, _, rfl, iteNTb (decide_eq_true (congrArg V.str hz1)) ?_⟩
        have ga : GoodA [w] := ⟨by simp, (by show 1 ≤ 3; decide), fun y hy => by rw [List.mem_singleton.mp hy]; exact nw⟩
        have ew : w = dotted [w] := (dotted_one w).symm
        by_cases hin : inV (V.str w) ((as.map dotted).map V.str) = true
        · refine ⟨_, rfl, _, rfl, F, _, rfl, .inl (SqL.of hF7), rfl, hfl _, _, rfl, iteFb (by rw [hin]; rfl) ?_⟩
          refine ⟨_, _, _, _, as, rfl, sm.trans s27, hF7, g, by omega, fun _ z => ?_⟩
          rw [z] at hin
          exact absurd (show false = true from hin) (by decide)
        · have hin2 : inV (V.str w) ((as.map dotted).map V.str) = false := by simpa using hin
          refine ⟨_, rfl, _, rfl, F, _, rfl, .inl (SqL.of hF7), rfl, hfl _, _, rfl, iteTb (by rw [hin2]; rfl) ?_⟩
          refine ⟨_, rfl, .inl ⟨rfl, _, SqL.of hF7⟩, _, rfl, F, _, _, rfl, rfl, hF7, Nat.lt_of_lt_of_le (show ((as.map dotted).map V.str).length < 1000 by omega) big1000, ?_⟩
          refine ⟨_, _, _, _, as ++ [[w]], rfl, (sm.trans s27).over hF, upd_same.trans (by rw [List.map_append, List.map_append]; show some (HO.lst (_ ++ [V.str w])) = some (HO.lst (_ ++ [V.str (dotted [w])])); rw [← ew]), g.snoc (by omega) ga (fun hm => hin (by rw [ew]; exact inV_of (List.mem_map.mpr ⟨_, hm, rfl⟩))) (.inl rfl), by rw [List.length_append]; show as.length + 1 ≤ _; omega, fun _ => by simp⟩
      · obtain ⟨p, hp, rfl, hp2⟩ := (hz0 z hz).resolve_left hz1
        have gp := g.ok p hp
        have nwl := nw.hi
        have h36 := gp.len
        refine ⟨_, rfl, rfl, _, rfl, iteNFb (decide_eq_false fun y => hz1 (V.str.inj y)) ?_⟩
        refine ⟨_, rfl, _, _, rfl, rfl, abS h36 (show (("." : Str)).length ≤ 1 by decide +kernel), _, rfl, _, _, rfl, rfl, abS (alS h36 (show (("." : Str)).length ≤ 1 by decide +kernel)) nwl, ?_⟩
        have ew : dotted p ++ "." ++ w = dotted (p ++ [w]) := dotted_snoc gp.lo
        have ga : GoodA (p ++ [w]) := ⟨by simp, by rw [List.length_append]; show p.length + 1 ≤ 3; omega, fun y hy => by
          rcases List.mem_append.mp hy with hy | hy
          · exact gp.nm y hy
          · rw [List.mem_singleton.mp hy]; exact nw⟩
        by_cases hin : inV (V.str (dotted p ++ "." ++ w)) ((as.map dotted).map V.str) = true
        · refine ⟨_, rfl, _, rfl, F, _, rfl, .inl (SqL.of hF7), rfl, hfl _, _, rfl, iteFb (by rw [hin]; rfl) ?_⟩
          refine ⟨_, _, _, _, as, rfl, sm.trans s27, hF7, g, by omega, fun _ z => ?_⟩
          rw [z] at hp
          cases hp
        · have hin2 : inV (V.str (dotted p ++ "." ++ w)) ((as.map dotted).map V.str) = false := by simpa using hin
          refine ⟨_, rfl, _, rfl, F, _, rfl, .inl (SqL.of hF7), rfl, hfl _, _, rfl, iteTb (by rw [hin2]; rfl) ?_⟩
          refine ⟨_, rfl, .inl ⟨rfl, _, SqL.of hF7⟩, _, rfl, F, _, _, rfl, rfl, hF7, Nat.lt_of_lt_of_le (show ((as.map dotted).map V.str).length < 1000 by omega) big1000, ?_⟩
          refine ⟨_, _, _, _, as ++ [p ++ [w]], rfl, (sm.trans s27).over hF, upd_same.trans (by rw [List.map_append, List.map_append]; show some (HO.lst (_ ++ [V.str (dotted p ++ "." ++ w)])) = some (HO.lst (_ ++ [V.str (dotted (p ++ [w]))])); rw [← ew]), g.snoc (by omega) ga (fun hm => hin (by rw [ew]; exact inV_of (List.mem_map.mpr ⟨_, hm, rfl⟩))) (.inr (by rw [List.dropLast_concat]; exact hp)), by rw [List.length_append]; show as.length + 1 ≤ _; omega, fun _ => by simp⟩
    · rintro σ H2 ⟨v4, v5, v6, v7, as, rfl, sm, hF2, g, hal, hane⟩
      have hne := hane (by omega)
      refine ⟨_, rfl, c, 30, 3, rfl, by decide, by decide, by decide, fun H3 s3 => ⟨rfl, _, rfl, ite2d (fun _ => ?_) (fun _ => ?_)⟩⟩
      · refine ⟨_, rfl, .inl ⟨rfl, _, SqL.of (s3 _ _ hF2)⟩, F, _, rfl, rfl, s3 _ _ hF2, ?_⟩
        exact ⟨_, rfl, q F _ as.reverse hF ((sm.trans s3).over hF) (by simpa using hne) g.rev (upd_same.trans (by rw [List.map_reverse, List.map_reverse]))⟩
      · exact ⟨_, rfl, q F _ as hF (sm.trans s3) hne g (s3 _ _ hF2)⟩

theorem ok_law_spoilt {C : Nat → Addr} (T : Tx K mg C) {f : Addr} {fd : FuncData} (F : Fun K "_law_spoilt" "_law_spoilt" s_law_spoilt f fd) : FnOk P w K mg base CX0 2 f fd psSpoilt spSpoilt := by
  obtain ⟨f_law_pick, fd_law_pick, A_law_pick⟩ := T.a_law_pick
  have G_law_pick : FnOk P w K mg base CX0 1 f_law_pick fd_law_pick psPick spPick := ok_pick A_law_pick.F
  refine F.ok scSpoilt (fun vs H Q E h => ?_) (fun cdv A outer s H vs Q E hr h => ?_)
  · obtain ⟨l, lw, c, ds, n, ws, rfl, _⟩ := h
    rfl
  · obtain ⟨l, lw, c, ds, n, ws, rfl, hs, gs, hn7, hlw, hw8, hwn, q⟩ := h
    have hr1 : Room 1 _ := hr
    refine ⟨_, QSs.h (qss_cons (qs_set (i := 3) scSpoilt.nd rfl (Or.inl rfl) (pcall A_law_pick G_law_pick hr1 (pa_cons (pv 1) (pa_cons pe_int (pa_cons pe_int pa_nil)))))
      (qss_cons (qs_set (i := 4) scSpoilt.nd rfl (Or.inl rfl) (pcall A_law_pick G_law_pick hr1 (pa_cons (pv 1) (pa_cons pe_int (pa_cons (pe_op op_add (pe_callB call_len_seq (by rfl) T.len PySem.boot_len (pa_cons (pv 0) pa_nil)) pe_int) pa_nil)))))
      (qss_cons (qs_set (i := 5) scSpoilt.nd rfl (Or.inl rfl) (pe_ix ix_list (pv 0) (pcall A_law_pick G_law_pick hr1 (pa_cons (pv 1) (pa_cons pe_int (pa_cons (pe_callB call_len_seq (by rfl) T.len PySem.boot_len (pa_cons (pv 0) pa_nil)) pa_nil)))) (fun _ _ => rfl)))
      (qss_cons (qs_set (i := 6) scSpoilt.nd rfl (Or.inr rfl) (pe_ix ix_list (pv 2) (pcall A_law_pick G_law_pick hr1 (pa_cons (pv 1) (pa_cons pe_int (pa_cons pe_int pa_nil)))) (fun _ _ => rfl)))
      (qss_cons (qs_if (pt_cmpR op_eq (pv 3) pe_int (nomark _)) (qss_one (qs_ret (pe_op op_cat (pe_op op_cat (pe_slice sl_list (pv 0) po_none (po_some (pv 4))) (pe_lst (pa_cons (pe_tup (pa_cons (pe_ix ix_tup (pv 5) pe_int (fun _ _ => rfl)) (pa_cons (pe_lst (pa_cons (pv 6) pa_nil)) pa_nil))) pa_nil))) (pe_slice sl_list (pv 0) (po_some (pv 4)) po_none)))) qss_nil)
      (qss_cons (qs_if (PW.pt (pw_and (pt_cmpR op_eq (pv 3) pe_int (nomark _)) (pw_and1 (pt_cmpR op_gt (pe_callB call_len_seq (by rfl) T.len PySem.boot_len (pa_cons (pv 0) pa_nil)) pe_int (nomark _))))) (qss_one (qs_ret (pe_op op_cat (pe_slice sl_list (pv 0) po_none (po_some (pv 4))) (pe_slice sl_list (pv 0) (po_some (pe_op op_add (pv 4) pe_int)) po_none)))) qss_nil)
      (qss_cons (qs_if (pt_cmpR op_eq (pv 3) pe_int (nomark _)) (qss_one (qs_ret (pe_op op_cat (pe_op op_cat (pe_slice sl_list (pv 0) po_none (po_some (pv 4))) (pe_lst (pa_cons (pe_tup (pa_cons (pe_op op_add_str (pe_ix ix_list (pe_lst (pa_cons pe_str (pa_cons pe_str pa_nil))) (pcall A_law_pick G_law_pick hr1 (pa_cons (pv 1) (pa_cons pe_int (pa_cons pe_int pa_nil)))) (fun _ _ => rfl)) (pv 6)) (pa_cons (pe_lst pa_nil) pa_nil))) pa_nil))) (pe_slice sl_list (pv 0) (po_some (pv 4)) po_none)))) qss_nil)
      (qss_cons (qs_if (pt_cmpR op_eq (pv 3) pe_int (nomark _)) (qss_cons (qs_comp (N := ["_law_last", "_law_word_here"]) [none, some 6] (i := 7) scSpoilt.nd rfl (Or.inl rfl) rfl (by kernel_rfl) (pi_str pe_str) (fun cl C fp s H => (pg_name (i := 0) (by decide +kernel : (["_law_last", "_law_word_here"] : List Str).Nodup) rfl (Or.inl rfl))) (fun cl C fp s H => pf_nil) (fun cl C fp s H => (pe_tup (pa_cons (pe_op op_add_str (pe_op op_add_str pe_str (pe_slice sl_str (pv 1) po_none (po_some pe_int))) (pv 0)) (pa_cons (pe_lst (pa_cons (pv 1) pa_nil)) pa_nil)))))
      (qss_one (qs_ret (pe_op op_cat (pe_op op_cat (pe_slice sl_list (pv 0) po_none (po_some (pv 4))) (pe_slice sl_list (pv 7) po_none (po_some (pcall A_law_pick G_law_pick hr1 (pa_cons (pv 1) (pa_cons pe_int (pa_cons pe_int pa_nil))))))) (pe_slice sl_list (pv 0) (po_some (pv 4)) po_none))))) qss_nil)
      (qss_cons (qs_set (i := 8) scSpoilt.nd rfl (Or.inl rfl) (pcall A_law_pick G_law_pick hr1 (pa_cons (pv 1) (pa_cons pe_int (pa_cons (pe_callB call_len_seq (by rfl) T.len PySem.boot_len (pa_cons (pv 0) pa_nil)) pa_nil)))))
      (qss_cons (qs_set (i := 9) scSpoilt.nd rfl (Or.inl rfl) (pe_callTy call_list_of (by rfl) T.t_list PyProof.Rows.boot_list (pa_cons (pe_ix ix_tup (pe_ix ix_list (pv 0) (pv 8) (fun _ _ => rfl)) pe_int (fun _ _ => rfl)) pa_nil)))
      (qss_cons (qs_set (i := 10) scSpoilt.nd rfl (Or.inl rfl) (pe_ix ix_list (pe_bm PySem.F.plainAttrs_str PySem.F.slot_str_split PySem.F.type_str_split mt_split (pe_ix ix_tup (pv 5) pe_int (fun _ _ => rfl)) (pa_cons pe_str pa_nil)) (pe_un un_neg pe_int) (fun _ _ => rfl)))
      (qss_cons (qs_if (pt_cmpR op_notIn_seq (pv 10) (pv 9) (by rfl)) (qss_one (qs_expr (pe_bm PySem.F.plainAttrs_list PySem.F.slot_list_insert PySem.F.type_list_insert mt_insert (pv 9) (pa_cons (pcall A_law_pick G_law_pick hr1 (pa_cons (pv 1) (pa_cons pe_int (pa_cons (pe_op op_add (pe_callB call_len_seq (by rfl) T.len PySem.boot_len (pa_cons (pv 9) pa_nil)) pe_int) pa_nil)))) (pa_cons (pv 10) pa_nil))))) qss_nil)
      (qss_one (qs_ret (pe_op op_cat (pe_op op_cat (pe_slice sl_list (pv 0) po_none (po_some (pv 8))) (pe_lst (pa_cons (pe_tup (pa_cons (pe_ix ix_tup (pe_ix ix_list (pv 0) (pv 8) (fun _ _ => rfl)) pe_int (fun _ _ => rfl)) (pa_cons (pv 9) pa_nil))) pa_nil))) (pe_slice sl_list (pv 0) (po_some (pe_op op_add (pv 8) pe_int)) po_none)))))))))))))))), ?_⟩
    obtain ⟨xs, hl, tx⟩ := id hs
    have hxl := tx.1
    have hne := gs.ne
    have hi := gs.hi
    have hlen0 : 0 < (xs.length : Int) := by have := List.length_pos_iff.mpr hne; omega
    have g2 : ∀ d ∈ ds, G2 (1 + (n + 1)) d := fun d hd => (gs.ok d hd).mono (by omega)
    have hw0 : ws ≠ [] := fun z => by rw [z] at hw8; cases hw8
    refine ⟨_, rfl, c, 0, 6, rfl, by decide, by decide, by decide, fun H1 s1 => ?_⟩
    refine ⟨_, rfl, _, rfl, l, _, rfl, .inl (SqL.of (s1 _ _ hl)), _, _, rfl, rfl, c, 1, (xs.length : Int) + 1, rfl, by decide, by decide, by omega, fun H2 s2 => ?_⟩
    have a0 := pick_ge c 1 (m := (xs.length : Int) + 1) (by omega)
    have a1 := pick_lt c 1 (m := (xs.length : Int) + 1) (by omega)
    generalize pick c 1 ((xs.length : Int) + 1) = at0 at a0 a1
    obtain ⟨at1, rfl⟩ : ∃ a : Nat, at0 = (a : Int) := ⟨at0.toNat, by omega⟩
    have ha : at1 ≤ xs.length := by omega
    have s02 := s1.trans s2
    obtain ⟨i1, d1, t1, b1, ed1, _, eat1, ht1, hb1⟩ := at_pickT (c := c) (k := 2) tx hne
    refine ⟨_, rfl, _, rfl, _, rfl, l, _, rfl, .inl (SqL.of (s02 _ _ hl)), c, 2, (xs.length : Int), rfl, by decide, by decide, hlen0, fun H3 s3 => ⟨l, _, _, _, rfl, rfl, SqL.of ((s02.trans s3) _ _ hl), eat1, ?_⟩⟩
    have s03 := s02.trans s3
    have gd1 := gs.ok d1 (List.mem_of_getElem? ed1)
    obtain ⟨w, hw, eaw⟩ := at_pick (c := c) (k := 3) hw0
    rw [hw8] at eaw
    have nw := hwn w hw
    refine ⟨_, rfl, _, rfl, c, 3, 8, rfl, by decide, by decide, by decide, fun H4 s4 => ⟨lw, _, _, _, rfl, rfl, SqL.of ((s03.trans s4) _ _ hlw), eaw, ?_⟩⟩
    have s04 := s03.trans s4
    clear s1 s2 s3 s4 s02 s03 eat1 eaw a0 a1
    have k0 := pick_ge c 0 (m := 6) (by decide)
    have k1 := pick_lt c 0 (m := 6) (by decide)
    generalize pick c 0 6 = kd at k0 k1
    have cut1 : cutV xs none (some (at1 : Int)) = xs.take at1 := cut_to xs at1
    have cut2 : cutV xs (some (at1 : Int)) none = xs.drop at1 := cut_from xs at1
    have htl : (xs.take at1).length ≤ 100 := by rw [List.length_take]; omega
    have hdl : ∀ m, (xs.drop m).length ≤ 100 := fun m => by rw [List.length_drop]; omega
    refine ⟨_, rfl, rfl, _, rfl, iteVi (fun hk => ?_) (fun hk => ?_)⟩
    · refine ⟨_, rfl, _, rfl, _, rfl, l, _, rfl, SqL.of (s04 _ _ hl), fun c1 hc1 => ?_⟩
      rw [cut1]
      have s5 : Same H4 (upd H4 c1 (.lst (xs.take at1))) := Same.new hc1
      have hc5 : (upd H4 c1 (.lst (xs.take at1))) c1 = some (.lst (xs.take at1)) := upd_same
      generalize upd H4 c1 (.lst (xs.take at1)) = H5 at s5 hc5
      have s05 := s04.trans s5
      refine ⟨_, rfl, t1, _, _, _, rfl, rfl, SqT.of (s05 _ _ ht1), atI_nat (j := 0) rfl, _, rfl, by show 1 ≤ sizeLine; decide, fun nl hnl => ⟨by show 2 ≤ sizeLine; decide, fun tp htp => ⟨by show 1 ≤ sizeLine; decide, fun tl htl2 => ?_⟩⟩⟩
      have s6 : Same H5 (upd (upd (upd H5 nl (.lst [V.str w])) tp (.tup [V.str (dotted d1.ad), V.ref nl])) tl (.lst [V.ref tp])) := ((Same.new hnl).put htp).put htl2
      have hnl6 : (upd (upd (upd H5 nl (.lst [V.str w])) tp (.tup [V.str (dotted d1.ad), V.ref nl])) tl (.lst [V.ref tp])) nl = some (.lst ([w].map V.str)) := (Same.new htl2) _ _ ((Same.new htp) _ _ upd_same)
      have htp6 : (upd (upd (upd H5 nl (.lst [V.str w])) tp (.tup [V.str (dotted d1.ad), V.ref nl])) tl (.lst [V.ref tp])) tp = some (.tup [V.str (dotted d1.ad), V.ref nl]) := (Same.new htl2) _ _ upd_same
      have htl6 : (upd (upd (upd H5 nl (.lst [V.str w])) tp (.tup [V.str (dotted d1.ad), V.ref nl])) tl (.lst [V.ref tp])) tl = some (.lst [V.ref tp]) := upd_same
      generalize upd (upd (upd H5 nl (.lst [V.str w])) tp (.tup [V.str (dotted d1.ad), V.ref nl])) tl (.lst [V.ref tp]) = H6 at s6 hnl6 htp6 htl6
      refine ⟨c1, tl, _, _, rfl, rfl, s6 _ _ hc5, htl6, Nat.le_trans (show (xs.take at1).length + 1 ≤ 1000 by omega) line_big, fun e1 he1 => ?_⟩
      have s7 : Same H6 (upd H6 e1 (.lst (xs.take at1 ++ [V.ref tp]))) := Same.new he1
      have he7 : (upd H6 e1 (.lst (xs.take at1 ++ [V.ref tp]))) e1 = some (.lst (xs.take at1 ++ [V.ref tp])) := upd_same
      generalize upd H6 e1 (.lst (xs.take at1 ++ [V.ref tp])) = H7 at s7 he7
      have s07 := s05.trans (s6.trans s7)
      refine ⟨_, rfl, _, rfl, _, rfl, l, _, rfl, SqL.of (s07 _ _ hl), fun c2 hc2 => ?_⟩
      rw [cut2]
      have s8 : Same H7 (upd H7 c2 (.lst (xs.drop at1))) := Same.new hc2
      have hc8 : (upd H7 c2 (.lst (xs.drop at1))) c2 = some (.lst (xs.drop at1)) := upd_same
      generalize upd H7 c2 (.lst (xs.drop at1)) = H8 at s8 hc8
      have hd1 := hdl at1
      refine ⟨e1, c2, _, _, rfl, rfl, s8 _ _ he7, hc8, Nat.le_trans (show (xs.take at1 ++ [V.ref tp]).length + (xs.drop at1).length ≤ 1000 by rw [List.length_append]; show (xs.take at1).length + 1 + _ ≤ _; omega) line_big, fun e2 he2 => ?_⟩
      have s09 := (s07.trans s8).put (o := .lst (xs.take at1 ++ [V.ref tp] ++ xs.drop at1)) he2
      have s69 := (s7.trans s8).put (o := .lst (xs.take at1 ++ [V.ref tp] ++ xs.drop at1)) he2
      refine q e2 _ (ds.take at1 ++ [⟨d1.ad, [w]⟩] ++ ds.drop at1) s09 ⟨_, upd_same, (((tx.take at1).same s09).append ((TX.one (d := ⟨d1.ad, [w]⟩) htp6 hnl6).same s69)).append ((tx.drop at1).same s09)⟩ (Gs.of (ds := ds) (by simp) ?_ fun d hd => ?_)
      · simp only [List.length_append, List.length_take, List.length_drop, List.length_singleton]; omega
      · rcases mem_mid hd with k | k | k
        · exact g2 d (List.mem_of_mem_take k)
        · rw [List.mem_singleton.mp k]
          exact ⟨gd1.ad, by show 1 ≤ _; omega, fun y hy => by rw [List.mem_singleton.mp hy]; exact nw⟩
        · exact g2 d (List.mem_of_mem_drop k)
    refine ⟨_, rfl, rfl, _, rfl, ite_and (b := decide ((1 : Int) < (xs.length : Int))) (fun hh => ⟨_, rfl, l, _, rfl, .inl (SqL.of (s04 _ _ hl)), _, _, rfl, rfl, _, rfl, hh⟩) (fun _ hk2 => ?_) (fun _ => ?_)⟩
    · have h1l : 1 < xs.length := by have := of_decide_eq_true hk2; omega
      refine ⟨_, rfl, _, rfl, _, rfl, l, _, rfl, SqL.of (s04 _ _ hl), fun c1 hc1 => ?_⟩
      rw [cut1]
      have s5 : Same H4 (upd H4 c1 (.lst (xs.take at1))) := Same.new hc1
      have hc5 : (upd H4 c1 (.lst (xs.take at1))) c1 = some (.lst (xs.take at1)) := upd_same
      generalize upd H4 c1 (.lst (xs.take at1)) = H5 at s5 hc5
      have s05 := s04.trans s5
      refine ⟨_, rfl, _, rfl, _, _, rfl, rfl, _, rfl, l, _, rfl, SqL.of (s05 _ _ hl), fun c2 hc2 => ?_⟩
      have cut3 : cutV xs (some ((at1 : Int) + 1)) none = xs.drop (at1 + 1) := cut_from xs (at1 + 1)
      rw [cut3]
      have s8 : Same H5 (upd H5 c2 (.lst (xs.drop (at1 + 1)))) := Same.new hc2
      have hc8 : (upd H5 c2 (.lst (xs.drop (at1 + 1)))) c2 = some (.lst (xs.drop (at1 + 1))) := upd_same
      generalize upd H5 c2 (.lst (xs.drop (at1 + 1))) = H8 at s8 hc8
      have hd1 := hdl (at1 + 1)
      refine ⟨c1, c2, _, _, rfl, rfl, s8 _ _ hc5, hc8, Nat.le_trans (show (xs.take at1).length + (xs.drop (at1 + 1)).length ≤ 1000 by omega) line_big, fun e2 he2 => ?_⟩
      have s09 := (s05.trans s8).put (o := .lst (xs.take at1 ++ xs.drop (at1 + 1))) he2
      have hel : (ds.take at1 ++ ds.drop (at1 + 1)).length = min at1 ds.length + (ds.length - (at1 + 1)) := by rw [List.length_append, List.length_take, List.length_drop]
      refine q e2 _ (ds.take at1 ++ ds.drop (at1 + 1)) s09 ⟨_, upd_same, ((tx.take at1).same s09).append ((tx.drop (at1 + 1)).same s09)⟩ (Gs.of (ds := ds) (fun z => ?_) (by omega) fun d hd => ?_)
      · rw [z] at hel
        have hel : 0 = _ := hel
        omega
      · rcases List.mem_append.mp hd with k | k
        · exact g2 d (List.mem_of_mem_take k)
        · exact g2 d (List.mem_of_mem_drop k)
    refine ⟨_, rfl, rfl, _, rfl, iteVi (fun hk => ?_) (fun hk => ?_)⟩
    · refine ⟨_, rfl, _, rfl, _, rfl, l, _, rfl, SqL.of (s04 _ _ hl), fun c1 hc1 => ?_⟩
      rw [cut1]
      have s5 : Same H4 (upd H4 c1 (.lst (xs.take at1))) := Same.new hc1
      have hc5 : (upd H4 c1 (.lst (xs.take at1))) c1 = some (.lst (xs.take at1)) := upd_same
      generalize upd H4 c1 (.lst (xs.take at1)) = H5 at s5 hc5
      have s05 := s04.trans s5
      refine ⟨by show 2 ≤ sizeLine; decide, fun zl hzl => ?_⟩
      have s5a : Same H5 (upd H5 zl (.lst [V.str "zz.", V.str "zz.zz."])) := Same.new hzl
      have hz5 : (upd H5 zl (.lst [V.str "zz.", V.str "zz.zz."])) zl = some (.lst [V.str "zz.", V.str "zz.zz."]) := upd_same
      generalize upd H5 zl (.lst [V.str "zz.", V.str "zz.zz."]) = H5a at s5a hz5
      obtain ⟨pre, ys, epr, gys, eys, hpre⟩ : ∃ (pre : Str) (ys : List Str), atI [V.str "zz.", V.str "zz.zz."] (pick c 4 2) = some (V.str pre) ∧ GoodA ys ∧ pre ++ w = dotted ys ∧ pre.length ≤ 6 := by
        have h1 := pick_ge c 4 (m := 2) (by decide)
        have h2 := pick_lt c 4 (m := 2) (by decide)
        generalize pick c 4 2 = k at h1 h2
        rcases (by omega : k = 0 ∨ k = 1) with rfl | rfl
        · exact ⟨_, _, atI_nat (j := 0) rfl, (zz1 nw).1, (zz1 nw).2, by decide +kernel⟩
        · exact ⟨_, _, atI_nat (j := 1) rfl, (zz2 nw).1, (zz2 nw).2, by decide +kernel⟩
      refine ⟨_, rfl, c, 4, 2, rfl, by decide, by decide, by decide, fun H5b s5b => ⟨zl, _, _, _, rfl, rfl, SqL.of (s5b _ _ hz5), epr, _, rfl, _, _, rfl, rfl, abS hpre nw.hi, ?_⟩⟩
      rw [eys]
      have s55 := s5a.trans s5b
      have s05b := s05.trans s55
      refine ⟨by show 0 ≤ sizeLine; decide, fun nl hnl => ⟨by show 2 ≤ sizeLine; decide, fun tp htp => ⟨by show 1 ≤ sizeLine; decide, fun tl htl2 => ?_⟩⟩⟩
      have s6 : Same H5b (upd (upd (upd H5b nl (.lst [])) tp (.tup [V.str (dotted ys), V.ref nl])) tl (.lst [V.ref tp])) := ((Same.new hnl).put htp).put htl2
      have hnl6 : (upd (upd (upd H5b nl (.lst [])) tp (.tup [V.str (dotted ys), V.ref nl])) tl (.lst [V.ref tp])) nl = some (.lst (([] : List Str).map V.str)) := (Same.new htl2) _ _ ((Same.new htp) _ _ upd_same)
      have htp6 : (upd (upd (upd H5b nl (.lst [])) tp (.tup [V.str (dotted ys), V.ref nl])) tl (.lst [V.ref tp])) tp = some (.tup [V.str (dotted ys), V.ref nl]) := (Same.new htl2) _ _ upd_same
      have htl6 : (upd (upd (upd H5b nl (.lst [])) tp (.tup [V.str (dotted ys), V.ref nl])) tl (.lst [V.ref tp])) tl = some (.lst [V.ref tp]) := upd_same
      generalize upd (upd (upd H5b nl (.lst [])) tp (.tup [V.str (dotted ys), V.ref nl])) tl (.lst [V.ref tp]) = H6 at s6 hnl6 htp6 htl6
      refine ⟨c1, tl, _, _, rfl, rfl, (s55.trans s6) _ _ hc5, htl6, Nat.le_trans (show (xs.take at1).length + 1 ≤ 1000 by omega) line_big, fun e1 he1 => ?_⟩
      have s7 : Same H6 (upd H6 e1 (.lst (xs.take at1 ++ [V.ref tp]))) := Same.new he1
      have he7 : (upd H6 e1 (.lst (xs.take at1 ++ [V.ref tp]))) e1 = some (.lst (xs.take at1 ++ [V.ref tp])) := upd_same
      generalize upd H6 e1 (.lst (xs.take at1 ++ [V.ref tp])) = H7 at s7 he7
      have s07 := s05b.trans (s6.trans s7)
      refine ⟨_, rfl, _, rfl, _, rfl, l, _, rfl, SqL.of (s07 _ _ hl), fun c2 hc2 => ?_⟩
      rw [cut2]
      have s8 : Same H7 (upd H7 c2 (.lst (xs.drop at1))) := Same.new hc2
      have hc8 : (upd H7 c2 (.lst (xs.drop at1))) c2 = some (.lst (xs.drop at1)) := upd_same
      generalize upd H7 c2 (.lst (xs.drop at1)) = H8 at s8 hc8
      have hd1 := hdl at1
      refine ⟨e1, c2, _, _, rfl, rfl, s8 _ _ he7, hc8, Nat.le_trans (show (xs.take at1 ++ [V.ref tp]).length + (xs.drop at1).length ≤ 1000 by rw [List.length_append]; show (xs.take at1).length + 1 + _ ≤ _; omega) line_big, fun e2 he2 => ?_⟩
      have s09 := (s07.trans s8).put (o := .lst (xs.take at1 ++ [V.ref tp] ++ xs.drop at1)) he2
      have s69 := (s7.trans s8).put (o := .lst (xs.take at1 ++ [V.ref tp] ++ xs.drop at1)) he2
      refine q e2 _ (ds.take at1 ++ [⟨ys, []⟩] ++ ds.drop at1) s09 ⟨_, upd_same, (((tx.take at1).same s09).append ((TX.one (d := ⟨ys, []⟩) htp6 hnl6).same s69)).append ((tx.drop at1).same s09)⟩ (Gs.of (ds := ds) (by simp) ?_ fun d hd => ?_)
      · simp only [List.length_append, List.length_take, List.length_drop, List.length_singleton]; omega
      · rcases mem_mid hd with k | k | k
        · exact g2 d (List.mem_of_mem_take k)
        · rw [List.mem_singleton.mp k]
          exact ⟨gys, Nat.zero_le _, fun y hy => by cases hy⟩
        · exact g2 d (List.mem_of_mem_drop k)
    refine ⟨_, rfl, rfl, _, rfl, iteVi (fun hk => ?_) (fun hk => ?_)⟩
    · refine ⟨_, rfl, comp_strG (fun τ => ∃ u, τ = [u, some (.str w)]) (fun i v H' => ∃ d : D2, G2 1 d ∧ TupOk H' v d) (fun i v H' H'' ⟨d, gd, ok⟩ s => ⟨d, gd, ok.same s⟩) (by decide +kernel) ⟨_, rfl⟩ (fun i cc τ H5 Q' hcc s5 hS k => ?_) (fun ys H5 s5 hyl hys ml hml => ?_)⟩
      · obtain ⟨u, rfl⟩ := hS
        have hc97 : 97 ≤ cc ∧ cc ≤ 122 := by
          have : ∀ x ∈ (("abcdefghij" : Str)).cps.toList, 97 ≤ x ∧ x ≤ 122 := by decide +kernel
          exact this cc (List.mem_of_getElem? hcc)
        have h6 := slice6_len nw.hi
        have hnm := q_nm nw hc97
        refine ⟨_, rfl, _, rfl, w, rfl, Nat.le_trans nw.hi (by decide), _, _, rfl, rfl, abS (show (("q" : Str)).length ≤ 1 by decide +kernel) h6, _, rfl, _, _, rfl, rfl, abS (alS (show (("q" : Str)).length ≤ 1 by decide +kernel) h6) (Nat.le_refl 1), _, rfl, by show 1 ≤ sizeLine; decide, fun nl hnl => ⟨by show 2 ≤ sizeLine; decide, fun tp htp => ?_⟩⟩
        exact k _ _ _ ⟨_, rfl⟩ ((Same.new hnl).put htp) ⟨⟨["q" ++ Txt.slice w none (some 6) ++ (⟨#[cc]⟩ : Str)], [w]⟩, ⟨good1 hnm, Nat.le_refl 1, fun y hy => by rw [List.mem_singleton.mp hy]; exact nw⟩, tp, nl, rfl, upd_same.trans (by rw [dotted_one]), (Same.new htp) _ _ upd_same⟩
      · obtain ⟨ms, hml2, hms⟩ := choose_list (fun i v d => G2 1 d ∧ TupOk H5 v d) ys 0 (fun i v e => hys i v e)
        have hyl : ys.length = 10 := hyl
        have txm : TX H5 ys ms := ⟨hml2.symm, fun i d e => by
          have hi : i < ys.length := by rw [← hml2]; exact (List.getElem?_eq_some_iff.mp e).1
          obtain ⟨d2, e2, _, ok⟩ := hms i _ (List.getElem?_eq_getElem hi)
          rw [e] at e2
          cases e2
          exact ⟨_, List.getElem?_eq_getElem hi, ok⟩⟩
        have gms : ∀ d ∈ ms, G2 1 d := fun d hd => by
          obtain ⟨i, hi, e⟩ := List.getElem_of_mem hd
          obtain ⟨d2, e2, gd, _⟩ := hms i _ (List.getElem?_eq_getElem (by omega))
          rw [List.getElem?_eq_getElem hi, e] at e2
          cases e2
          exact gd
        have s56 : Same H5 (upd H5 ml (.lst ys)) := Same.new hml
        have hm6 : (upd H5 ml (.lst ys)) ml = some (.lst ys) := upd_same
        generalize upd H5 ml (.lst ys) = H6 at s56 hm6
        have s06 := s04.trans (s5.trans s56)
        refine ⟨_, rfl, _, rfl, _, rfl, l, _, rfl, SqL.of (s06 _ _ hl), fun c1 hc1 => ?_⟩
        rw [cut1]
        have s67 : Same H6 (upd H6 c1 (.lst (xs.take at1))) := Same.new hc1
        have hc7 : (upd H6 c1 (.lst (xs.take at1))) c1 = some (.lst (xs.take at1)) := upd_same
        generalize upd H6 c1 (.lst (xs.take at1)) = H7 at s67 hc7
        have p0 := pick_ge c 5 (m := 11) (by decide)
        refine ⟨_, rfl, _, rfl, c, 5, 11, rfl, by decide, by decide, by decide, fun H8 s78 => ⟨_, rfl, ml, _, rfl, SqL.of ((s67.trans s78) _ _ hm6), fun c2 hc2 => ?_⟩⟩
        rw [cut_pre ys p0]
        generalize (pick c 5 11).toNat = pk
        have s68 := s67.trans s78
        have s89 : Same H8 (upd H8 c2 (.lst (ys.take pk))) := Same.new hc2
        have hc9 : (upd H8 c2 (.lst (ys.take pk))) c2 = some (.lst (ys.take pk)) := upd_same
        generalize upd H8 c2 (.lst (ys.take pk)) = H9 at s89 hc9
        have s69 := s68.trans s89
        have hyt : (ys.take pk).length ≤ 10 := by rw [List.length_take]; omega
        refine ⟨c1, c2, _, _, rfl, rfl, (s78.trans s89) _ _ hc7, hc9, Nat.le_trans (show (xs.take at1).length + (ys.take pk).length ≤ 1000 by omega) line_big, fun e1 he1 => ?_⟩
        have sA : Same H9 (upd H9 e1 (.lst (xs.take at1 ++ ys.take pk))) := Same.new he1
        have heA : (upd H9 e1 (.lst (xs.take at1 ++ ys.take pk))) e1 = some (.lst (xs.take at1 ++ ys.take pk)) := upd_same
        generalize upd H9 e1 (.lst (xs.take at1 ++ ys.take pk)) = HA at sA heA
        have s6A := s69.trans sA
        refine ⟨_, rfl, _, rfl, _, rfl, l, _, rfl, SqL.of ((s06.trans s6A) _ _ hl), fun c3 hc3 => ?_⟩
        rw [cut2]
        have sB : Same HA (upd HA c3 (.lst (xs.drop at1))) := Same.new hc3
        have hcB : (upd HA c3 (.lst (xs.drop at1))) c3 = some (.lst (xs.drop at1)) := upd_same
        generalize upd HA c3 (.lst (xs.drop at1)) = HB at sB hcB
        have hd1 := hdl at1
        refine ⟨e1, c3, _, _, rfl, rfl, sB _ _ heA, hcB, Nat.le_trans (show (xs.take at1 ++ ys.take pk).length + (xs.drop at1).length ≤ 1000 by rw [List.length_append]; omega) line_big, fun e2 he2 => ?_⟩
        have s6C := (s6A.trans sB).put (o := .lst (xs.take at1 ++ ys.take pk ++ xs.drop at1)) he2
        have s0C := s06.trans s6C
        have s5C := s56.trans s6C
        refine q e2 _ (ds.take at1 ++ ms.take pk ++ ds.drop at1) s0C ⟨_, upd_same, (((tx.take at1).same s0C).append ((txm.take pk).same s5C)).append ((tx.drop at1).same s0C)⟩ (Gs.of (ds := ds) (fun z => ?_) ?_ fun d hd => ?_)
        · have hz := List.append_eq_nil_iff.mp z
          have h1 := (List.append_eq_nil_iff.mp hz.1).1
          have := List.take_append_drop at1 ds
          rw [h1, hz.2] at this
          exact hne this.symm
        · simp only [List.length_append, List.length_take, List.length_drop]; omega
        · rcases mem_mid hd with k | k | k
          · exact g2 d (List.mem_of_mem_take k)
          · exact (gms d (List.mem_of_mem_take k)).mono (by omega)
          · exact g2 d (List.mem_of_mem_drop k)
    obtain ⟨i2, d2, t2, b2, ed2, ep2, eat2, ht2, hb2⟩ := at_pickT (c := c) (k := 6) tx hne
    have h2l : i2 < xs.length := by rw [hxl]; exact (List.getElem?_eq_some_iff.mp ed2).1
    have gd2 := gs.ok d2 (List.mem_of_getElem? ed2)
    refine ⟨_, rfl, _, rfl, l, _, rfl, .inl (SqL.of (s04 _ _ hl)), c, 6, (xs.length : Int), rfl, by decide, by decide, hlen0, fun H5 s5 => ?_⟩
    have s05 := s04.trans s5
    rw [ep2] at eat2 ⊢
    refine ⟨_, rfl, _, rfl, l, _, _, _, rfl, rfl, SqL.of (s05 _ _ hl), eat2, t2, _, _, _, rfl, rfl, SqT.of (s05 _ _ ht2), atI_nat (j := 1) rfl, b2, _, rfl, .inl (SqL.of (s05 _ _ hb2)), fun nl hnl => ?_⟩
    have s56 : Same H5 (upd H5 nl (.lst (d2.ns.map V.str))) := Same.new hnl
    have hn6 : (upd H5 nl (.lst (d2.ns.map V.str))) nl = some (.lst (d2.ns.map V.str)) := upd_same
    have hnl0 : H nl = none := s05.free hnl
    generalize upd H5 nl (.lst (d2.ns.map V.str)) = H6 at s56 hn6
    have s06 := s05.trans s56
    have h36 := gd1.ad.len
    refine ⟨_, rfl, t1, _, _, _, rfl, rfl, SqT.of (s06 _ _ ht1), atI_nat (j := 0) rfl, rfl, _, _, rfl, rfl, by decide +kernel, Nat.le_trans (show (dotted d1.ad).length + 2 ≤ 1000 by omega) line_big, fun p hp => ?_⟩
    rw [dotted_split d1.ad gd1.ad.lo gd1.ad.nm]
    obtain ⟨ax, lst, eal⟩ : ∃ ax lst, d1.ad = ax ++ [lst] := ⟨d1.ad.dropLast, d1.ad.getLast gd1.ad.lo, (List.dropLast_concat_getLast gd1.ad.lo).symm⟩
    have nlst : IsNm lst := gd1.ad.nm lst (by rw [eal]; simp)
    have s67 : Same H6 (upd H6 p (.lst (d1.ad.map V.str))) := Same.new hp
    have hp7 : (upd H6 p (.lst (d1.ad.map V.str))) p = some (.lst (d1.ad.map V.str)) := upd_same
    generalize upd H6 p (.lst (d1.ad.map V.str)) = H7 at s67 hp7
    refine ⟨_, rfl, p, _, _, _, rfl, rfl, SqL.of hp7, by rw [eal]; exact at_last, ?_⟩
    have hfl : ∀ zs : List Str, (zs.map V.str).all flatV = true := fun zs => by rw [List.all_eq_true]; intro v hv; obtain ⟨z, _, rfl⟩ := List.mem_map.mp hv; rfl
    have s07 := s06.trans s67
    have hn7 := s67 _ _ hn6
    refine ⟨_, rfl, _, rfl, nl, _, rfl, .inl (SqL.of hn7), rfl, hfl _, _, rfl, ?_⟩
    by_cases hin : lst ∈ d2.ns
    · refine iteFb (by rw [in_dec, decide_eq_true hin]; rfl) ?_
      refine ⟨_, rfl, _, rfl, _, rfl, l, _, rfl, SqL.of (s07 _ _ hl), fun c1 hc1 => ?_⟩
      rw [cut_to xs i2]
      have s9 : Same H7 (upd H7 c1 (.lst (xs.take i2))) := Same.new hc1
      have hc9 : (upd H7 c1 (.lst (xs.take i2))) c1 = some (.lst (xs.take i2)) := upd_same
      generalize upd H7 c1 (.lst (xs.take i2)) = H9 at s9 hc9
      have s09 := s07.trans s9
      refine ⟨_, rfl, _, rfl, l, _, _, _, rfl, rfl, SqL.of (s09 _ _ hl), eat2, t2, _, _, _, rfl, rfl, SqT.of (s09 _ _ ht2), atI_nat (j := 0) rfl, _, rfl, by show 2 ≤ sizeLine; decide, fun tp htp => ⟨by show 1 ≤ sizeLine; decide, fun tl htl2 => ?_⟩⟩
      have sA : Same H9 (upd (upd H9 tp (.tup [V.str (dotted d2.ad), V.ref nl])) tl (.lst [V.ref tp])) := (Same.new htp).put htl2
      have htpA : (upd (upd H9 tp (.tup [V.str (dotted d2.ad), V.ref nl])) tl (.lst [V.ref tp])) tp = some (.tup [V.str (dotted d2.ad), V.ref nl]) := (Same.new htl2) _ _ upd_same
      have htlA : (upd (upd H9 tp (.tup [V.str (dotted d2.ad), V.ref nl])) tl (.lst [V.ref tp])) tl = some (.lst [V.ref tp]) := upd_same
      generalize upd (upd H9 tp (.tup [V.str (dotted d2.ad), V.ref nl])) tl (.lst [V.ref tp]) = HA at sA htpA htlA
      have ht9 : (xs.take i2).length ≤ 100 := by rw [List.length_take]; omega
      refine ⟨c1, tl, _, _, rfl, rfl, sA _ _ hc9, htlA, Nat.le_trans (show (xs.take i2).length + 1 ≤ 1000 by omega) line_big, fun e1 he1 => ?_⟩
      have sB : Same HA (upd HA e1 (.lst (xs.take i2 ++ [V.ref tp]))) := Same.new he1
      have heB : (upd HA e1 (.lst (xs.take i2 ++ [V.ref tp]))) e1 = some (.lst (xs.take i2 ++ [V.ref tp])) := upd_same
      generalize upd HA e1 (.lst (xs.take i2 ++ [V.ref tp])) = HB at sB heB
      have s0B := s09.trans (sA.trans sB)
      refine ⟨_, rfl, _, rfl, _, _, rfl, rfl, _, rfl, l, _, rfl, SqL.of (s0B _ _ hl), fun c2 hc2 => ?_⟩
      have cut3 : cutV xs (some ((i2 : Int) + 1)) none = xs.drop (i2 + 1) := cut_from xs (i2 + 1)
      rw [cut3]
      have sC : Same HB (upd HB c2 (.lst (xs.drop (i2 + 1)))) := Same.new hc2
      have hcC : (upd HB c2 (.lst (xs.drop (i2 + 1)))) c2 = some (.lst (xs.drop (i2 + 1))) := upd_same
      generalize upd HB c2 (.lst (xs.drop (i2 + 1))) = HC at sC hcC
      have hd1 := hdl (i2 + 1)
      refine ⟨e1, c2, _, _, rfl, rfl, sC _ _ heB, hcC, Nat.le_trans (show (xs.take i2 ++ [V.ref tp]).length + (xs.drop (i2 + 1)).length ≤ 1000 by rw [List.length_append]; show (xs.take i2).length + 1 + _ ≤ _; omega) line_big, fun e2 he2 => ?_⟩
      have s0D := (s0B.trans sC).put (o := .lst (xs.take i2 ++ [V.ref tp] ++ xs.drop (i2 + 1))) he2
      have sAD := (sB.trans sC).put (o := .lst (xs.take i2 ++ [V.ref tp] ++ xs.drop (i2 + 1))) he2
      refine q e2 _ (ds.take i2 ++ [⟨d2.ad, d2.ns⟩] ++ ds.drop (i2 + 1)) s0D ⟨_, upd_same, (((tx.take i2).same s0D).append ((TX.one (d := ⟨d2.ad, d2.ns⟩) htpA (sA _ _ (s9 _ _ hn7))).same sAD)).append ((tx.drop (i2 + 1)).same s0D)⟩ (Gs.of (ds := ds) (by simp) ?_ fun d hd => ?_)
      · simp only [List.length_append, List.length_take, List.length_drop, List.length_singleton]; omega
      · rcases mem_mid hd with k | k | k
        · exact g2 d (List.mem_of_mem_take k)
        · rw [List.mem_singleton.mp k]
          exact gd2.mono (by omega)
        · exact g2 d (List.mem_of_mem_drop k)
    · refine iteTb (by rw [in_dec, decide_eq_false hin]; rfl) ?_
      have hnn : (d2.ns.map V.str).length = d2.ns.length := List.length_map _
      have n0 := pick_ge c 7 (m := (d2.ns.length : Int) + 1) (by omega)
      have n1 := pick_lt c 7 (m := (d2.ns.length : Int) + 1) (by omega)
      have hns := gd2.hi
      obtain ⟨pi, epi⟩ : ∃ a : Nat, pick c 7 ((d2.ns.length : Int) + 1) = (a : Int) := ⟨(pick c 7 ((d2.ns.length : Int) + 1)).toNat, by omega⟩
      have hpi : pi ≤ d2.ns.length := by omega
      refine ⟨_, rfl, .inl ⟨rfl, _, SqL.of hn7⟩, _, rfl, _, rfl, nl, _, rfl, .inl (SqL.of hn7), _, _, rfl, rfl, c, 7, (d2.ns.length : Int) + 1, (by rw [hnn]; rfl), by decide, by decide, by omega, fun H8 s8 => ⟨_, rfl, nl, d2.ns.map V.str, pi, V.str lst, rfl, (by rw [epi]), s8 _ _ hn7, by omega, by omega, ?_⟩⟩
      have ens : (d2.ns.map V.str).take pi ++ V.str lst :: (d2.ns.map V.str).drop pi = (d2.ns.take pi ++ lst :: d2.ns.drop pi).map V.str := by
        rw [List.map_append, List.map_cons, List.map_take, List.map_drop]
      rw [ens]
      have s08 : Same H (upd H8 nl (.lst ((d2.ns.take pi ++ lst :: d2.ns.drop pi).map V.str))) := (s07.trans s8).over hnl0
      have hn8 : (upd H8 nl (.lst ((d2.ns.take pi ++ lst :: d2.ns.drop pi).map V.str))) nl = some (.lst ((d2.ns.take pi ++ lst :: d2.ns.drop pi).map V.str)) := upd_same
      have hnl8 : (d2.ns.take pi ++ lst :: d2.ns.drop pi).length = d2.ns.length + 1 := by
        rw [List.length_append, List.length_cons, List.length_take, List.length_drop]; omega
      have hnm8 : ∀ y ∈ d2.ns.take pi ++ lst :: d2.ns.drop pi, IsNm y := fun y hy => by
        rcases List.mem_append.mp hy with k | k
        · exact gd2.nm y (List.mem_of_mem_take k)
        · rcases List.mem_cons.mp k with rfl | k
          · exact nlst
          · exact gd2.nm y (List.mem_of_mem_drop k)
      generalize (d2.ns.take pi ++ lst :: d2.ns.drop pi) = nn at s08 hn8 hnl8 hnm8
      generalize upd H8 nl (.lst (nn.map V.str)) = H8b at s08 hn8
      refine ⟨_, rfl, _, rfl, _, rfl, l, _, rfl, SqL.of (s08 _ _ hl), fun c1 hc1 => ?_⟩
      rw [cut_to xs i2]
      have s9 : Same H8b (upd H8b c1 (.lst (xs.take i2))) := Same.new hc1
      have hc9 : (upd H8b c1 (.lst (xs.take i2))) c1 = some (.lst (xs.take i2)) := upd_same
      generalize upd H8b c1 (.lst (xs.take i2)) = H9 at s9 hc9
      have s09 := s08.trans s9
      refine ⟨_, rfl, _, rfl, l, _, _, _, rfl, rfl, SqL.of (s09 _ _ hl), eat2, t2, _, _, _, rfl, rfl, SqT.of (s09 _ _ ht2), atI_nat (j := 0) rfl, _, rfl, by show 2 ≤ sizeLine; decide, fun tp htp => ⟨by show 1 ≤ sizeLine; decide, fun tl htl2 => ?_⟩⟩
      have sA : Same H9 (upd (upd H9 tp (.tup [V.str (dotted d2.ad), V.ref nl])) tl (.lst [V.ref tp])) := (Same.new htp).put htl2
      have htpA : (upd (upd H9 tp (.tup [V.str (dotted d2.ad), V.ref nl])) tl (.lst [V.ref tp])) tp = some (.tup [V.str (dotted d2.ad), V.ref nl]) := (Same.new htl2) _ _ upd_same
      have htlA : (upd (upd H9 tp (.tup [V.str (dotted d2.ad), V.ref nl])) tl (.lst [V.ref tp])) tl = some (.lst [V.ref tp]) := upd_same
      generalize upd (upd H9 tp (.tup [V.str (dotted d2.ad), V.ref nl])) tl (.lst [V.ref tp]) = HA at sA htpA htlA
      have ht9 : (xs.take i2).length ≤ 100 := by rw [List.length_take]; omega
      refine ⟨c1, tl, _, _, rfl, rfl, sA _ _ hc9, htlA, Nat.le_trans (show (xs.take i2).length + 1 ≤ 1000 by omega) line_big, fun e1 he1 => ?_⟩
      have sB : Same HA (upd HA e1 (.lst (xs.take i2 ++ [V.ref tp]))) := Same.new he1
      have heB : (upd HA e1 (.lst (xs.take i2 ++ [V.ref tp]))) e1 = some (.lst (xs.take i2 ++ [V.ref tp])) := upd_same
      generalize upd HA e1 (.lst (xs.take i2 ++ [V.ref tp])) = HB at sB heB
      have s0B := s09.trans (sA.trans sB)
      refine ⟨_, rfl, _, rfl, _, _, rfl, rfl, _, rfl, l, _, rfl, SqL.of (s0B _ _ hl), fun c2 hc2 => ?_⟩
      have cut3 : cutV xs (some ((i2 : Int) + 1)) none = xs.drop (i2 + 1) := cut_from xs (i2 + 1)
      rw [cut3]
      have sC : Same HB (upd HB c2 (.lst (xs.drop (i2 + 1)))) := Same.new hc2
      have hcC : (upd HB c2 (.lst (xs.drop (i2 + 1)))) c2 = some (.lst (xs.drop (i2 + 1))) := upd_same
      generalize upd HB c2 (.lst (xs.drop (i2 + 1))) = HC at sC hcC
      have hd1 := hdl (i2 + 1)
      refine ⟨e1, c2, _, _, rfl, rfl, sC _ _ heB, hcC, Nat.le_trans (show (xs.take i2 ++ [V.ref tp]).length + (xs.drop (i2 + 1)).length ≤ 1000 by rw [List.length_append]; show (xs.take i2).length + 1 + _ ≤ _; omega) line_big, fun e2 he2 => ?_⟩
      have s0D := (s0B.trans sC).put (o := .lst (xs.take i2 ++ [V.ref tp] ++ xs.drop (i2 + 1))) he2
      have sAD := (sB.trans sC).put (o := .lst (xs.take i2 ++ [V.ref tp] ++ xs.drop (i2 + 1))) he2
      refine q e2 _ (ds.take i2 ++ [⟨d2.ad, nn⟩] ++ ds.drop (i2 + 1)) s0D ⟨_, upd_same, (((tx.take i2).same s0D).append ((TX.one (d := ⟨d2.ad, nn⟩) htpA (sA _ _ (s9 _ _ hn8))).same sAD)).append ((tx.drop (i2 + 1)).same s0D)⟩ (Gs.of (ds := ds) (by simp) ?_ fun d hd => ?_)
      · simp only [List.length_append, List.length_take, List.length_drop, List.length_singleton]; omega
      · rcases mem_mid hd with k | k | k
        · exact g2 d (List.mem_of_mem_take k)
        · rw [List.mem_singleton.mp k]
          exact ⟨gd2.ad, by show nn.length ≤ _; omega, hnm8⟩
        · exact g2 d (List.mem_of_mem_drop k)

theorem ok_law_due {C : Nat → Addr} (T : Tx K mg C) {f : Addr} {fd : FuncData} (F : Fun K "_law_due" "_law_due" s_law_due f fd) : FnOk P w K mg base CX0 1 f fd psDue spDue2 := by
  refine F.ok scDue (fun vs H Q E h => ?_) (fun cdv A outer s H vs Q E hr h => ?_)
  · obtain ⟨l, ds, rfl, _⟩ := h
    rfl
  · obtain ⟨l, ds, rfl, hs, h200, hg, q⟩ := h
    refine ⟨_, QSs.h (qss_cons (qs_comp (N := ["_law_one"]) [none] (i := 1) scDue.nd rfl (Or.inl rfl) rfl (by kernel_rfl) (pi_list (pv 0)) (fun cl C fp s H => (pg_name (i := 0) (by decide +kernel : (["_law_one"] : List Str).Nodup) rfl (Or.inl rfl))) (fun cl C fp s H => pf_nil) (fun cl C fp s H => (pe_ix (ix_tupK (K := K) rfl) (pv 0) pe_int (fun _ _ => rfl))))
      (qss_cons (qs_for PassesOwn.never rfl (pi_range1 (by rfl) T.range (pa_cons (pe_callB call_len_seq (by rfl) T.len PySem.boot_len (pa_cons (pv 0) pa_nil)) pa_nil)) (pg_name (i := 2) scDue.nd rfl (Or.inl rfl))
      (qss_cons (qs_asg (pe_ix ix_list (pv 0) (pv 2) (fun _ _ => rfl)) (pg_tupK (K := K) (n := 2) rfl rfl (pgs_cons (pg_name (i := 3) scDue.nd rfl (Or.inl rfl)) (pgs_cons (pg_name (i := 4) scDue.nd rfl (Or.inl rfl)) pgs_nil))))
      (qss_cons (qs_if (pt_cmpR op_gt (pv 2) pe_int (nomark _)) (qss_one (qs_ret (pe_tup (pa_cons pe_str (pa_cons (pv 2) pa_nil))))) qss_nil)
      (qss_cons (qs_if (pt_cmpR op_in_seq (pv 3) (pe_slice sl_list (pv 1) po_none (po_some (pv 2))) (by rfl)) (qss_one (qs_ret (pe_tup (pa_cons pe_str (pa_cons (pv 2) pa_nil))))) qss_nil)
      (qss_cons (qs_if (PW.pt (pw_and (pt_cmpR op_in_str pe_str (pv 3) (by rfl)) (pw_and1 (pt_cmpR op_notIn_seq (pe_bm PySem.F.plainAttrs_str PySem.F.slot_str_join PySem.F.type_str_join mt_join pe_str (pa_cons (pe_slice sl_list (pe_bm PySem.F.plainAttrs_str PySem.F.slot_str_split PySem.F.type_str_split mt_split (pv 3) (pa_cons pe_str pa_nil)) po_none (po_some (pe_un un_neg pe_int))) pa_nil)) (pv 1) (by rfl))))) (qss_one (qs_ret (pe_tup (pa_cons pe_str (pa_cons (pv 2) pa_nil))))) qss_nil)
      (qss_one (qs_for PassesOwn.never rfl (pi_list (pv 4)) (pg_name (i := 5) scDue.nd rfl (Or.inl rfl))
      (qss_one (qs_if (pt_cmpR op_in_seq (pe_op op_add_str (pe_op op_add_str (pv 3) pe_str) (pv 5)) (pv 1) (by rfl)) (qss_one (qs_ret (pe_tup (pa_cons pe_str (pa_cons (pv 2) pa_nil))))) qss_nil)))))))))
      (qss_one (qs_ret (pe_tup (pa_cons pe_str (pa_cons (pe_callB call_len_seq (by rfl) T.len PySem.boot_len (pa_cons (pv 0) pa_nil)) pa_nil))))))), ?_⟩
    obtain ⟨xs, hl, tx⟩ := id hs
    have hxl := tx.1
    have hx12 : xs.length ≤ sizeLine := Nat.le_trans (show xs.length ≤ 200 by omega) (by decide)
    have hfl : ∀ zs : List Str, (zs.map V.str).all flatV = true := fun zs => by rw [List.all_eq_true]; intro v hv; obtain ⟨z, _, rfl⟩ := List.mem_map.mp hv; rfl
    refine ⟨_, rfl, l, rfl, ⟨_, SqL.of hl⟩, comp_listI (fun i => ((adsOf ds).map V.str).getD i .non) hx12 (SqL.of hl) (fun i x H' Q' hx sm k => ?_) (fun H1 s1 b hb => ?_)⟩
    · obtain ⟨d, ed, t, bb, rfl, ht, hbb⟩ := tx.at hx
      have k2 : Q' (((adsOf ds).map V.str).getD i .non) H' := k H' (Same.refl _)
      have e : ((adsOf ds).map V.str).getD i .non = V.str (dotted d.ad) := by
        rw [List.getD_eq_getElem?_getD, List.getElem?_map]
        unfold adsOf
        rw [List.getElem?_map, ed]
        rfl
      rw [e] at k2
      exact ⟨_, rfl, t, _, _, _, rfl, rfl, SqT.of (sm _ _ ht), atI_nat (j := 0) rfl, k2⟩
    have em : (List.range xs.length).map (fun i => ((adsOf ds).map V.str).getD i .non) = (adsOf ds).map V.str := by
      apply List.ext_getElem
      · simp [hxl]
      · intro i h1 h2
        have : i < ds.length := by simpa using h2
        simp [this]
    rw [em]
    have s2 : Same H (upd H1 b (.lst ((adsOf ds).map V.str))) := s1.put hb
    have hb2 : (upd H1 b (.lst ((adsOf ds).map V.str))) b = some (.lst ((adsOf ds).map V.str)) := upd_same
    generalize upd H1 b (.lst ((adsOf ds).map V.str)) = H2 at s2 hb2
    refine ⟨_, rfl, l, _, rfl, .inl (SqL.of (s2 _ _ hl)), _, rfl, by omega, by omega, ?_⟩
    refine for_range (fun i σ H' => ∃ v2 v3 v4 v5, σ = [some (.ref l), some (.ref b), v2, v3, v4, v5] ∧ Same H2 H' ∧ ∀ (j : Nat) d, j < i → ds[j]? = some d → dueAt (adsOf ds) j d = 0) ⟨none, none, none, none, rfl, Same.refl _, fun j d hj => absurd hj (Nat.not_lt_zero _)⟩ ?_ ?_
    · rintro i σ H3 hi ⟨v2, v3, v4, v5, rfl, sm, hok⟩
      have hi : i < xs.length := by omega
      have ei : xs[i]? = some xs[i] := List.getElem?_eq_getElem hi
      obtain ⟨d, ed, t, bb, ev, ht, hbb⟩ := tx.at ei
      have s03 := s2.trans sm
      have gd := hg d (List.mem_of_getElem? ed)
      have eat : atI xs (0 + (i : Int)) = some (V.ref t) := by rw [Int.zero_add]; exact atI_nat (by rw [ei, ev])
      refine ⟨_, rfl, _, rfl, l, _, _, _, rfl, rfl, SqL.of (s03 _ _ hl), eat, t, _, rfl, SqT.of (s03 _ _ ht), rfl, _, _, rfl, _, _, rfl, rfl, ?_⟩
      have told : ∀ {c : Nat} {H4 : Hp}, Same H H4 → 1 ≤ c → c ≤ 4 → dueAt (adsOf ds) i d = c → ∀ p, H4 p = none → Q (.ref p) (upd H4 p (.tup [.str (wordC c), .int (0 + (i : Int))])) := fun {c H4} s4 h1 h4 hd p hp =>
        q p _ c i (s4.put hp) ⟨hok, .inr ⟨h1, h4, d, ed, hd⟩⟩ (upd_same.trans (by rw [Int.zero_add]))
      by_cases h1 : 12 ≤ i
      · exact ⟨_, rfl, _, _, rfl, rfl, _, rfl, iteTb (decide_eq_true (by omega)) ⟨_, rfl, by show 2 ≤ sizeLine; decide, told (c := 1) s03 (by decide) (by decide) (due1 h1)⟩⟩
      refine ⟨_, rfl, _, _, rfl, rfl, _, rfl, iteFb (decide_eq_false (by omega)) ?_⟩
      refine ⟨_, rfl, _, rfl, _, rfl, _, rfl, b, _, rfl, SqL.of (sm _ _ hb2), fun c hc => ?_⟩
      have ec : cutV ((adsOf ds).map V.str) none (some (0 + (i : Int))) = ((adsOf ds).take i).map V.str := by rw [Int.zero_add, cut_to, List.map_take]
      rw [ec]
      have s24 : Same H2 (upd H3 c (.lst (((adsOf ds).take i).map V.str))) := sm.put hc
      have hc4 : (upd H3 c (.lst (((adsOf ds).take i).map V.str))) c = some (.lst (((adsOf ds).take i).map V.str)) := upd_same
      generalize upd H3 c (.lst (((adsOf ds).take i).map V.str)) = H4 at s24 hc4
      have s4 := s2.trans s24
      by_cases h2 : dotted d.ad ∈ (adsOf ds).take i
      · exact ⟨c, _, rfl, .inl (SqL.of hc4), rfl, hfl _, _, rfl, iteTb (by rw [in_dec, decide_eq_true h2]; rfl) ⟨_, rfl, by show 2 ≤ sizeLine; decide, told (c := 2) s4 (by decide) (by decide) (due2 h1 h2)⟩⟩
      refine ⟨c, _, rfl, .inl (SqL.of hc4), rfl, hfl _, _, rfl, iteFb (by rw [in_dec, decide_eq_false h2]; rfl) ?_⟩
      have h36 := gd.ad.len
      have sp := dotted_split d.ad gd.ad.lo gd.ad.nm
      by_cases hdl : d.ad.dropLast = []
      · refine ⟨_, rfl, _, _, rfl, rfl, _, rfl, iteFb (Bool.eq_false_iff.mpr fun z => (dot_iff gd.ad).mp z hdl) (iteF ?_)⟩
        have h3 : ¬ (d.ad.dropLast ≠ [] ∧ dotted d.ad.dropLast ∉ adsOf ds) := fun z => z.1 hdl
        refine ⟨_, rfl, bb, rfl, ⟨_, SqL.of ((s2.trans s24) _ _ hbb)⟩, ?_⟩
        refine for_list (xs := d.ns.map V.str) (fun j σ H' => ∃ v5, σ = [some (.ref l), some (.ref b), some (.int (0 + (i : Int))), some (.str (dotted d.ad)), some (.ref bb), v5] ∧ Same H2 H' ∧ ∀ n ∈ d.ns.take j, dotted d.ad ++ "." ++ n ∉ adsOf ds) ⟨_, rfl, s24, fun n hn => by cases hn⟩ ?_ ?_ ?_
        · rintro j σ H' _ ⟨v5, rfl, sj, _⟩
          exact SqL.of ((s2.trans sj) _ _ hbb)
        · rintro j v σ H6 hv ⟨v5, rfl, sj, hj⟩
          obtain ⟨n, en, rfl⟩ : ∃ n, d.ns[j]? = some n ∧ v = V.str n := by
            rw [List.getElem?_map] at hv
            cases e : d.ns[j]? with
            | none => rw [e] at hv; cases hv
            | some a => rw [e] at hv; cases hv; exact ⟨a, rfl, rfl⟩
          have hnm := List.mem_of_getElem? en
          refine ⟨_, rfl, _, _, rfl, rfl, abS h36 (show (("." : Str)).length ≤ 1 by decide +kernel), _, rfl, _, _, rfl, rfl, abS (alS h36 (show (("." : Str)).length ≤ 1 by decide +kernel)) (gd.nm n hnm).hi, _, rfl, b, _, rfl, .inl (SqL.of (sj _ _ hb2)), rfl, hfl _, _, rfl, ?_⟩
          by_cases h4 : dotted d.ad ++ "." ++ n ∈ adsOf ds
          · exact iteTb (by rw [in_dec, decide_eq_true h4]; rfl) ⟨_, rfl, by show 2 ≤ sizeLine; decide, told (c := 4) (s2.trans sj) (by decide) (by decide) (due4 h1 h2 h3 ⟨n, hnm, h4⟩)⟩
          · refine iteFb (by rw [in_dec, decide_eq_false h4]; rfl) ⟨_, rfl, sj, fun u hu => ?_⟩
            rw [List.take_succ, en] at hu
            rcases List.mem_append.mp hu with z | z
            · exact hj u z
            · have z : u = n := by simpa using z
              rw [z]; exact h4
        · rintro σ H6 ⟨v5, rfl, sj, hj⟩
          rw [List.length_map, List.take_length] at hj
          refine ⟨_, _, _, _, rfl, sj, fun j e hj' he => ?_⟩
          rcases Nat.lt_or_eq_of_le (Nat.le_of_lt_succ hj') with z | rfl
          · exact hok j e z he
          · rw [ed] at he
            cases he
            exact due0 h1 h2 h3 fun ⟨n, hn, z⟩ => hj n hn z
      · refine ⟨_, rfl, _, _, rfl, rfl, _, rfl, iteTb ((dot_iff gd.ad).mpr hdl) ?_⟩
        refine ⟨rfl, _, rfl, rfl, _, _, rfl, rfl, by decide +kernel, Nat.le_trans (show (dotted d.ad).length + 2 ≤ 1000 by omega) line_big, fun p hp => ?_⟩
        rw [sp]
        have s25 : Same H2 (upd H4 p (.lst (d.ad.map V.str))) := s24.put hp
        have hp5 : (upd H4 p (.lst (d.ad.map V.str))) p = some (.lst (d.ad.map V.str)) := upd_same
        generalize upd H4 p (.lst (d.ad.map V.str)) = H5 at s25 hp5
        refine ⟨_, rfl, _, rfl, p, _, rfl, SqL.of hp5, fun c2 hc2 => ?_⟩
        have ec2 : cutV (d.ad.map V.str) none (some (-1)) = d.ad.dropLast.map V.str := by
          rw [cut_init _ (fun z => gd.ad.lo (List.map_eq_nil_iff.mp z)), List.map_dropLast]
        rw [ec2]
        have s26 : Same H2 (upd H5 c2 (.lst (d.ad.dropLast.map V.str))) := s25.put hc2
        have hc6 : (upd H5 c2 (.lst (d.ad.dropLast.map V.str))) c2 = some (.lst (d.ad.dropLast.map V.str)) := upd_same
        generalize upd H5 c2 (.lst (d.ad.dropLast.map V.str)) = H6 at s26 hc6
        have hsum : (d.ad.dropLast.map (·.length)).sum ≤ d.ad.dropLast.length * 8 := sum_le fun y hy => (gd.ad.nm y (by rw [List.dropLast_eq_take] at hy; exact List.mem_of_mem_take hy)).hi
        have hdl3 : d.ad.dropLast.length ≤ 3 := by rw [List.length_dropLast]; exact Nat.le_trans (Nat.sub_le _ _) gd.ad.hi
        refine ⟨_, c2, d.ad.dropLast, rfl, rfl, .inl (SqL.of hc6), by rw [show (("." : Str)).length = 1 from by decide +kernel]; omega, _, rfl, b, _, rfl, .inl (SqL.of (s26 _ _ hb2)), rfl, hfl _, _, rfl, ?_⟩
        have ej : inV (V.str (Txt.join ("." : Str) d.ad.dropLast)) ((adsOf ds).map V.str) = decide (dotted d.ad.dropLast ∈ adsOf ds) := in_dec _ _
        by_cases hin : dotted d.ad.dropLast ∈ adsOf ds
        · have h3 : ¬ (d.ad.dropLast ≠ [] ∧ dotted d.ad.dropLast ∉ adsOf ds) := fun z => z.2 hin
          refine iteFb (by rw [ej, decide_eq_true hin]; rfl) ?_
          refine ⟨_, rfl, bb, rfl, ⟨_, SqL.of ((s2.trans s26) _ _ hbb)⟩, ?_⟩
          refine for_list (xs := d.ns.map V.str) (fun j σ H' => ∃ v5, σ = [some (.ref l), some (.ref b), some (.int (0 + (i : Int))), some (.str (dotted d.ad)), some (.ref bb), v5] ∧ Same H2 H' ∧ ∀ n ∈ d.ns.take j, dotted d.ad ++ "." ++ n ∉ adsOf ds) ⟨_, rfl, s26, fun n hn => by cases hn⟩ ?_ ?_ ?_
          · rintro j σ H' _ ⟨v5, rfl, sj, _⟩
            exact SqL.of ((s2.trans sj) _ _ hbb)
          · rintro j v σ H6 hv ⟨v5, rfl, sj, hj⟩
            obtain ⟨n, en, rfl⟩ : ∃ n, d.ns[j]? = some n ∧ v = V.str n := by
              rw [List.getElem?_map] at hv
              cases e : d.ns[j]? with
              | none => rw [e] at hv; cases hv
              | some a => rw [e] at hv; cases hv; exact ⟨a, rfl, rfl⟩
            have hnm := List.mem_of_getElem? en
            refine ⟨_, rfl, _, _, rfl, rfl, abS h36 (show (("." : Str)).length ≤ 1 by decide +kernel), _, rfl, _, _, rfl, rfl, abS (alS h36 (show (("." : Str)).length ≤ 1 by decide +kernel)) (gd.nm n hnm).hi, _, rfl, b, _, rfl, .inl (SqL.of (sj _ _ hb2)), rfl, hfl _, _, rfl, ?_⟩
            by_cases h4 : dotted d.ad ++ "." ++ n ∈ adsOf ds
            · exact iteTb (by rw [in_dec, decide_eq_true h4]; rfl) ⟨_, rfl, by show 2 ≤ sizeLine; decide, told (c := 4) (s2.trans sj) (by decide) (by decide) (due4 h1 h2 h3 ⟨n, hnm, h4⟩)⟩
            · refine iteFb (by rw [in_dec, decide_eq_false h4]; rfl) ⟨_, rfl, sj, fun u hu => ?_⟩
              rw [List.take_succ, en] at hu
              rcases List.mem_append.mp hu with z | z
              · exact hj u z
              · have z : u = n := by simpa using z
                rw [z]; exact h4
          · rintro σ H6 ⟨v5, rfl, sj, hj⟩
            rw [List.length_map, List.take_length] at hj
            refine ⟨_, _, _, _, rfl, sj, fun j e hj' he => ?_⟩
            rcases Nat.lt_or_eq_of_le (Nat.le_of_lt_succ hj') with z | rfl
            · exact hok j e z he
            · rw [ed] at he
              cases he
              exact due0 h1 h2 h3 fun ⟨n, hn, z⟩ => hj n hn z
        · exact iteTb (by rw [ej, decide_eq_false hin]; rfl) ⟨_, rfl, by show 2 ≤ sizeLine; decide, told (c := 3) (s2.trans s26) (by decide) (by decide) (due3 h1 h2 ⟨hdl, hin⟩)⟩
    · rintro σ H3 ⟨v2, v3, v4, v5, rfl, sm, hok⟩
      have ei : ((xs.length : Int)).toNat = ds.length := by omega
      rw [ei] at hok
      refine ⟨_, rfl, l, _, rfl, .inl (SqL.of ((s2.trans sm) _ _ hl)), by show 2 ≤ sizeLine; decide, fun p hp => ?_⟩
      exact q p _ 0 ds.length ((s2.trans sm).put hp) ⟨hok, .inl ⟨rfl, rfl⟩⟩ (upd_same.trans (by rw [hxl]; rfl))

theorem ok_law_word {C : Nat → Addr} (T : Tx K mg C) {f : Addr} {fd : FuncData} (F : Fun K "_law_word" "_law_word" s_law_word f fd) : FnOkH P w K mg base 1 f fd psWord (spWord2 C) := by
  refine F.okH scWord (fun vs H Q E h => ?_) (fun cdv A outer s H vs Q E y hr h => ?_)
  · obtain ⟨x, c, i, rfl, _⟩ := h
    rfl
  · obtain ⟨x, c, i, rfl, ⟨h1, h4, p, hx, hp⟩, q⟩ := h
    refine ⟨_, QSs.h (qss_cons (qs_if (PW.pt (pw_or (pt_not (pt_val (pe_callB (call_instXK (K := K) rfl) (by rfl) T.inst PyProof.Rows.boot_isinstance (pa_cons (pv 0) (pa_cons (pe_bltn (v := .ty "ValueError") (by rfl) T.t_ValueError boot_ValueError rfl) pa_nil))))) (pw_or1 (pt_val (pe_callB (call_instXTK (K := K) rfl) (by rfl) T.inst PyProof.Rows.boot_isinstance (pa_cons (pv 0) (pa_cons (pe_tup (pa_cons (pgl_ref T.c_NoDrop) (pa_cons (pgl_ref T.c_NoExpr) (pa_cons (pgl_ref T.c_NoName) (pa_cons (pgl_ref T.c_NoPart) (pa_cons (pgl_ref T.c_NoText) (pa_cons (pgl_ref T.c_Twice) pa_nil))))))) pa_nil))))))) (qss_one (qs_ret (pe_tup (pa_cons pe_str (pa_cons pe_int pa_nil))))) qss_nil)
      (qss_cons (qs_set (i := 1) scWord.nd rfl (Or.inl rfl) (pe_lst pa_nil))
      (qss_cons (qs_if (pt_val (pe_callB (call_instXK (K := K) rfl) (by rfl) T.inst PyProof.Rows.boot_isinstance (pa_cons (pv 0) (pa_cons (pgl_ref T.c_TooMany) pa_nil)))) (qss_one (qs_expr (pe_bmK (K := K) rfl PySem.F.plainAttrs_list PySem.F.slot_list_append PySem.F.type_list_append mt_append (pv 1) (pa_cons pe_str pa_nil)))) qss_nil)
      (qss_cons (qs_if (pt_val (pe_callB (call_instXK (K := K) rfl) (by rfl) T.inst PyProof.Rows.boot_isinstance (pa_cons (pv 0) (pa_cons (pgl_ref T.c_Double) pa_nil)))) (qss_one (qs_expr (pe_bmK (K := K) rfl PySem.F.plainAttrs_list PySem.F.slot_list_append PySem.F.type_list_append mt_append (pv 1) (pa_cons pe_str pa_nil)))) qss_nil)
      (qss_cons (qs_if (pt_val (pe_callB (call_instXK (K := K) rfl) (by rfl) T.inst PyProof.Rows.boot_isinstance (pa_cons (pv 0) (pa_cons (pgl_ref T.c_Orphan) pa_nil)))) (qss_one (qs_expr (pe_bmK (K := K) rfl PySem.F.plainAttrs_list PySem.F.slot_list_append PySem.F.type_list_append mt_append (pv 1) (pa_cons pe_str pa_nil)))) qss_nil)
      (qss_cons (qs_if (pt_val (pe_callB (call_instXK (K := K) rfl) (by rfl) T.inst PyProof.Rows.boot_isinstance (pa_cons (pv 0) (pa_cons (pgl_ref T.c_Clash) pa_nil)))) (qss_one (qs_expr (pe_bmK (K := K) rfl PySem.F.plainAttrs_list PySem.F.slot_list_append PySem.F.type_list_append mt_append (pv 1) (pa_cons pe_str pa_nil)))) qss_nil)
      (qss_cons (qs_if (PW.pt (pw_or (pt_cmpR op_ne (pe_callB (call_lenK (K := K) rfl) (by rfl) T.len PySem.boot_len (pa_cons (pv 1) pa_nil)) pe_int (nomark _)) (pw_or (pt_not (pt_val (pe_callB (call_instK (K := K) rfl) (by rfl) T.inst PyProof.Rows.boot_isinstance (pa_cons (pe_xfldK (K := K) rfl (pv 0) rfl) (pa_cons (pe_bltn (v := .ty "int") (by rfl) T.t_int PyProof.Rows.boot_int rfl) pa_nil))))) (pw_or1 (pt_val (pe_callB (call_instK (K := K) rfl) (by rfl) T.inst PyProof.Rows.boot_isinstance (pa_cons (pe_xfldK (K := K) rfl (pv 0) rfl) (pa_cons (pe_bltn (v := .ty "bool") (by rfl) T.t_bool PyProof.Rows.boot_bool rfl) pa_nil)))))))) (qss_one (qs_ret (pe_tup (pa_cons pe_str (pa_cons pe_int pa_nil))))) qss_nil)
      (qss_one (qs_ret (pe_tup (pa_cons (pe_ix (ix_listK (K := K) rfl) (pv 1) pe_int (fun _ _ => rfl)) (pa_cons (pe_xfldK (K := K) rfl (pv 0) rfl) pa_nil)))))))))))), ?_⟩
    have hd : ∀ {H' : Hp}, Same H H' → ∀ p', some p = some p' → ∃ fs, H' p' = some (XdO p' fs) := fun s p' e => ⟨_, by cases e; exact s _ _ hp⟩
    have X := T.xf.x (21 + c) (by omega) (by omega)
    have NA := T.xf.a (21 + c) (by omega) (by omega)
    have KV := T.xf.v (21 + c) (by omega) (by omega)
    have KT := T.xf.t (21 + c) (by omega) (by omega)
    have KK := fun j h1' h2' => T.xf.k (21 + c) j (by omega) (by omega) h1' h2'
    refine ⟨_, rfl, _, x, C (21 + c), some p, _, _, _, rfl, rfl, hx, hd (Same.refl _), X, KV, _, rfl, iteF ?_⟩
    refine ⟨_, rfl, by show 6 ≤ sizeLine; decide, fun tp htp => ?_⟩
    have s1 : Same H (upd H tp (.tup [V.ref (C 26), V.ref (C 27), V.ref (C 28), V.ref (C 21), V.ref (C 29), V.ref (C 30)])) := Same.new htp
    refine ⟨_, x, C (21 + c), some p, tp, [C 26, C 27, C 28, C 21, C 29, C 30], false, rfl, upd_same, s1 _ _ hx, hd s1, X, KT, _, rfl, iteF ?_⟩
    generalize upd H tp (.tup [V.ref (C 26), V.ref (C 27), V.ref (C 28), V.ref (C 21), V.ref (C 29), V.ref (C 30)]) = H1 at s1
    refine ⟨by show 0 ≤ sizeLine; decide, fun F hF => ?_⟩
    have s2 : Same H (upd H1 F (.lst [])) := s1.put hF
    have hF0 : H F = none := s1.free hF
    have hF2 : (upd H1 F (.lst [])) F = some (.lst []) := upd_same
    generalize upd H1 F (.lst []) = H2 at s2 hF2
    have s3 : Same H (upd H2 F (.lst ([] ++ [V.str (wordC c)]))) := s2.over hF0
    have hF3 : (upd H2 F (.lst ([] ++ [V.str (wordC c)]))) F = some (.lst [V.str (wordC c)]) := upd_same
    rcases (by omega : c = 1 ∨ c = 2 ∨ c = 3 ∨ c = 4) with rfl | rfl | rfl | rfl
    · refine ⟨_, rfl, _, x, C (21 + 1), some p, _, _, _, rfl, rfl, s2 _ _ hx, hd s2, X, KK 22 (by decide) (by decide), _, rfl, iteTb (by decide) ⟨_, rfl, .inl ⟨rfl, _, SqL.of hF2⟩, F, _, _, rfl, rfl, hF2, by decide, ?_⟩⟩
      refine ⟨_, rfl, _, x, C (21 + 1), some p, _, _, _, rfl, rfl, s3 _ _ hx, hd s3, X, KK 23 (by decide) (by decide), _, rfl, iteFb (by decide) ?_⟩
      refine ⟨_, rfl, _, x, C (21 + 1), some p, _, _, _, rfl, rfl, s3 _ _ hx, hd s3, X, KK 24 (by decide) (by decide), _, rfl, iteFb (by decide) ?_⟩
      refine ⟨_, rfl, _, x, C (21 + 1), some p, _, _, _, rfl, rfl, s3 _ _ hx, hd s3, X, KK 25 (by decide) (by decide), _, rfl, iteFb (by decide) ?_⟩
      refine ⟨_, rfl, F, _, rfl, .inl (SqL.of hF3), rfl, _, rfl, iteNe rfl ⟨_, rfl, _, x, C (21 + 1), p, _, _, rfl, s3 _ _ hx, s3 _ _ hp, X, NA, rfl, _, _, _, _, rfl, .int _, kit_same, _, rfl, iteF ⟨_, rfl, _, x, C (21 + 1), p, _, _, rfl, s3 _ _ hx, s3 _ _ hp, X, NA, rfl, _, _, _, _, rfl, .int _, rfl, _, rfl, iteF ?_⟩⟩⟩
      refine ⟨_, rfl, F, _, _, _, rfl, rfl, SqL.of hF3, atI_nat (j := 0) rfl, _, rfl, _, x, C (21 + 1), p, _, _, rfl, s3 _ _ hx, s3 _ _ hp, X, NA, rfl, by show 2 ≤ sizeLine; decide, fun t ht => q t _ (s3.put ht) upd_same⟩
    · refine ⟨_, rfl, _, x, C (21 + 2), some p, _, _, _, rfl, rfl, s2 _ _ hx, hd s2, X, KK 22 (by decide) (by decide), _, rfl, iteFb (by decide) ?_⟩
      refine ⟨_, rfl, _, x, C (21 + 2), some p, _, _, _, rfl, rfl, s2 _ _ hx, hd s2, X, KK 23 (by decide) (by decide), _, rfl, iteTb (by decide) ⟨_, rfl, .inl ⟨rfl, _, SqL.of hF2⟩, F, _, _, rfl, rfl, hF2, by decide, ?_⟩⟩
      refine ⟨_, rfl, _, x, C (21 + 2), some p, _, _, _, rfl, rfl, s3 _ _ hx, hd s3, X, KK 24 (by decide) (by decide), _, rfl, iteFb (by decide) ?_⟩
      refine ⟨_, rfl, _, x, C (21 + 2), some p, _, _, _, rfl, rfl, s3 _ _ hx, hd s3, X, KK 25 (by decide) (by decide), _, rfl, iteFb (by decide) ?_⟩
      refine ⟨_, rfl, F, _, rfl, .inl (SqL.of hF3), rfl, _, rfl, iteNe rfl ⟨_, rfl, _, x, C (21 + 2), p, _, _, rfl, s3 _ _ hx, s3 _ _ hp, X, NA, rfl, _, _, _, _, rfl, .int _, kit_same, _, rfl, iteF ⟨_, rfl, _, x, C (21 + 2), p, _, _, rfl, s3 _ _ hx, s3 _ _ hp, X, NA, rfl, _, _, _, _, rfl, .int _, rfl, _, rfl, iteF ?_⟩⟩⟩
      refine ⟨_, rfl, F, _, _, _, rfl, rfl, SqL.of hF3, atI_nat (j := 0) rfl, _, rfl, _, x, C (21 + 2), p, _, _, rfl, s3 _ _ hx, s3 _ _ hp, X, NA, rfl, by show 2 ≤ sizeLine; decide, fun t ht => q t _ (s3.put ht) upd_same⟩
    · refine ⟨_, rfl, _, x, C (21 + 3), some p, _, _, _, rfl, rfl, s2 _ _ hx, hd s2, X, KK 22 (by decide) (by decide), _, rfl, iteFb (by decide) ?_⟩
      refine ⟨_, rfl, _, x, C (21 + 3), some p, _, _, _, rfl, rfl, s2 _ _ hx, hd s2, X, KK 23 (by decide) (by decide), _, rfl, iteFb (by decide) ?_⟩
      refine ⟨_, rfl, _, x, C (21 + 3), some p, _, _, _, rfl, rfl, s2 _ _ hx, hd s2, X, KK 24 (by decide) (by decide), _, rfl, iteTb (by decide) ⟨_, rfl, .inl ⟨rfl, _, SqL.of hF2⟩, F, _, _, rfl, rfl, hF2, by decide, ?_⟩⟩
      refine ⟨_, rfl, _, x, C (21 + 3), some p, _, _, _, rfl, rfl, s3 _ _ hx, hd s3, X, KK 25 (by decide) (by decide), _, rfl, iteFb (by decide) ?_⟩
      refine ⟨_, rfl, F, _, rfl, .inl (SqL.of hF3), rfl, _, rfl, iteNe rfl ⟨_, rfl, _, x, C (21 + 3), p, _, _, rfl, s3 _ _ hx, s3 _ _ hp, X, NA, rfl, _, _, _, _, rfl, .int _, kit_same, _, rfl, iteF ⟨_, rfl, _, x, C (21 + 3), p, _, _, rfl, s3 _ _ hx, s3 _ _ hp, X, NA, rfl, _, _, _, _, rfl, .int _, rfl, _, rfl, iteF ?_⟩⟩⟩
      refine ⟨_, rfl, F, _, _, _, rfl, rfl, SqL.of hF3, atI_nat (j := 0) rfl, _, rfl, _, x, C (21 + 3), p, _, _, rfl, s3 _ _ hx, s3 _ _ hp, X, NA, rfl, by show 2 ≤ sizeLine; decide, fun t ht => q t _ (s3.put ht) upd_same⟩
    · refine ⟨_, rfl, _, x, C (21 + 4), some p, _, _, _, rfl, rfl, s2 _ _ hx, hd s2, X, KK 22 (by decide) (by decide), _, rfl, iteFb (by decide) ?_⟩
      refine ⟨_, rfl, _, x, C (21 + 4), some p, _, _, _, rfl, rfl, s2 _ _ hx, hd s2, X, KK 23 (by decide) (by decide), _, rfl, iteFb (by decide) ?_⟩
      refine ⟨_, rfl, _, x, C (21 + 4), some p, _, _, _, rfl, rfl, s2 _ _ hx, hd s2, X, KK 24 (by decide) (by decide), _, rfl, iteFb (by decide) ?_⟩
      refine ⟨_, rfl, _, x, C (21 + 4), some p, _, _, _, rfl, rfl, s2 _ _ hx, hd s2, X, KK 25 (by decide) (by decide), _, rfl, iteTb (by decide) ⟨_, rfl, .inl ⟨rfl, _, SqL.of hF2⟩, F, _, _, rfl, rfl, hF2, by decide, ?_⟩⟩
      refine ⟨_, rfl, F, _, rfl, .inl (SqL.of hF3), rfl, _, rfl, iteNe rfl ⟨_, rfl, _, x, C (21 + 4), p, _, _, rfl, s3 _ _ hx, s3 _ _ hp, X, NA, rfl, _, _, _, _, rfl, .int _, kit_same, _, rfl, iteF ⟨_, rfl, _, x, C (21 + 4), p, _, _, rfl, s3 _ _ hx, s3 _ _ hp, X, NA, rfl, _, _, _, _, rfl, .int _, rfl, _, rfl, iteF ?_⟩⟩⟩
      refine ⟨_, rfl, F, _, _, _, rfl, rfl, SqL.of hF3, atI_nat (j := 0) rfl, _, rfl, _, x, C (21 + 4), p, _, _, rfl, s3 _ _ hx, s3 _ _ hp, X, NA, rfl, by show 2 ≤ sizeLine; decide, fun t ht => q t _ (s3.put ht) upd_same⟩

theorem ok_law_told {C : Nat → Addr} (T : Tx K mg C) {f : Addr} {fd : FuncData} (F : Fun K "_law_told" "_law_told" s_law_told f fd) : FnOk P w K mg base CX0 9 f fd psTold (spTold C) := by
  obtain ⟨f_law_word, fd_law_word, A_law_word⟩ := T.a_law_word
  have G_law_word : FnOkH P w K mg base 1 f_law_word fd_law_word psWord (spWord2 C) := ok_law_word T A_law_word.F
  obtain ⟨f_haddresses, fd_haddresses, A_haddresses, M_haddresses⟩ := T.m_House_addresses
  have G_haddresses : FnOk P w K mg base CX0 1 f_haddresses fd_haddresses psPMHouseAddresses (spHAddr C) := ok_m_House_addresses T A_haddresses.F
  obtain ⟨f_i_House, fd_i_House, A_i_House, M_House⟩ := T.i_House
  have G_i_House : FnOk P w K mg base (CX1 P w) 7 f_i_House fd_i_House psPMHouseInit (spHIni2 C) := ok_m_House___init__ T A_i_House.F
  obtain ⟨f_i_Let, fd_i_Let, A_i_Let, M_Let⟩ := T.i_Let
  have G_i_Let : FnOk P w K mg base CX0 1 f_i_Let fd_i_Let psPMLetInit (spIniL C 0) := ok_m_Let___init__ T A_i_Let.F
  obtain ⟨f_i_Part, fd_i_Part, A_i_Part, M_Part⟩ := T.i_Part
  have G_i_Part : FnOk P w K mg base CX0 1 f_i_Part fd_i_Part psPMPartInit (spPIni C) := ok_m_Part___init__ T A_i_Part.F
  refine F.ok scTold (fun vs H Q E h => ?_) (fun cdv A outer s H vs Q E hr h => ?_)
  · obtain ⟨l, ds, rfl, _⟩ := h
    rfl
  · obtain ⟨l, ds, rfl, hs, h200, hg, q⟩ := h
    have hr1 : Room 1 _ := hr.mono (by decide)
    have hr2 : Room 2 _ := hr.mono (by decide)
    have hr8 : Room 8 _ := hr
    refine ⟨_, QSs.h (qss_cons (qs_comp (N := ["_law_address", "_law_names"]) [none, none] (i := 1) scTold.nd rfl (Or.inl rfl) rfl (by kernel_rfl) (pi_list (pv 0)) (fun cl C fp s H => (pg_tupK (K := K) (n := 2) rfl rfl (pgs_cons (pg_name (i := 0) (by decide +kernel : (["_law_address", "_law_names"] : List Str).Nodup) rfl (Or.inl rfl)) (pgs_cons (pg_name (i := 1) (by decide +kernel : (["_law_address", "_law_names"] : List Str).Nodup) rfl (Or.inl rfl)) pgs_nil)))) (fun cl C fp s H => pf_nil) (fun cl C fp s H => (rmake M_Part A_i_Part.b G_i_Part hr2 T.c_Part (pa_cons (pv 0) (pa_cons (pe_comp (N := ["_law_name"]) [none] rfl (by kernel_rfl) (pi_listK (K := K) rfl (pv 1)) (fun cl C fp s H => (pg_name (i := 0) (by decide +kernel : (["_law_name"] : List Str).Nodup) rfl (Or.inl rfl))) (fun cl C fp s H => pf_nil) (fun cl C fp s H => (rmake M_Let A_i_Let.b G_i_Let hr2 T.c_Let (pa_cons (pv 0) (pa_cons (pe_lst (pa_cons (pe_tup (pa_cons pe_int (pa_cons pe_str (pa_cons pe_int pa_nil)))) pa_nil)) pa_nil))))) pa_nil)))))
      (qss_cons (qs_set (i := 2) scTold.nd rfl (Or.inl rfl) (pe_callTy call_list_of (by rfl) T.t_list PyProof.Rows.boot_list (pa_cons (pv 1) pa_nil)))
      (qss_cons (qs_set (i := 3) scTold.nd rfl (Or.inl rfl) (pe_tup (pa_cons pe_str (pa_cons (pe_callB call_len_seq (by rfl) T.len PySem.boot_len (pa_cons (pv 0) pa_nil)) pa_nil))))
      (qss_cons (qs_tryAs (i := 5) T.x_HouseError T.c_HouseError scTold.nd rfl rfl rfl rfl (fun pins E W hw => (qss_one (qs_set (i := 4) scTold.nd rfl (Or.inl rfl) (rmakeY M_House A_i_House.b G_i_House hr8 T.c_House hw (pa_cons (pv 1) pa_nil))))) (qss_one (qs_if (pt_cmpR (op_neD (K := K) rfl hr.units) (pe_meth0 (pv 4) T.hs.cl.cl M_haddresses G_haddresses hr1 A_haddresses.b .nil pass0) (pe_callB call_sortedS (by rfl) T.sorted PyProof.Rows.boot_sorted (pa_cons (pe_comp (N := ["_law_one"]) [none] rfl (by kernel_rfl) (pi_list (pv 0)) (fun cl C fp s H => (pg_name (i := 0) (by decide +kernel : (["_law_one"] : List Str).Nodup) rfl (Or.inl rfl))) (fun cl C fp s H => pf_nil) (fun cl C fp s H => (pe_ix (ix_tupK (K := K) rfl) (pv 0) pe_int (fun _ _ => rfl)))) pa_nil)) (nomark _)) (qss_one (qs_ret (pe_tup (pa_cons pe_str (pa_cons pe_int pa_nil))))) qss_nil)) (fun x pins => (qss_one (qs_set (i := 3) scTold.nd rfl (Or.inl rfl) (pcallH A_law_word G_law_word hr1 (pa_cons (pv 5) pa_nil))))))
      (qss_cons (qs_if (pt_cmpR (op_neD (K := K) rfl hr.units) (pv 1) (pv 2) (nomark _)) (qss_one (qs_ret (pe_tup (pa_cons pe_str (pa_cons pe_int pa_nil))))) qss_nil)
      (qss_one (qs_ret (pv 3)))))))), ?_⟩
    obtain ⟨xs, hl, tx⟩ := id hs
    have hxl := tx.1
    have hx12 : xs.length ≤ sizeLine := Nat.le_trans (show xs.length ≤ 200 by omega) (by decide)
    refine ⟨_, rfl, l, rfl, ⟨_, SqL.of hl⟩, ?_⟩
    refine comp_listG (xs := xs) (fun τ => ∃ a b, τ = [a, b]) (fun i v H' => ∃ d a lr, ds[i]? = some d ∧ v = .ref a ∧ PartAt C H' a (dotted d.ad) lr (d.ns.map letR))
      (fun i v H' H'' ⟨d, a, lr, e1, e2, pa⟩ s => ⟨d, a, lr, e1, e2, pa.same s⟩) hx12 (SqL.of hl) ⟨_, _, rfl⟩ (fun i x τ H1 Q' hx s1 hS k => ?_) (fun ys H1 s1 hyl hys hd hhd => ?_)
    · obtain ⟨ta, tb, rfl⟩ := hS
      obtain ⟨d, ed, t, bb, rfl, ht, hbb⟩ := tx.at hx
      have gd := hg d (List.mem_of_getElem? ed)
      refine ⟨t, _, rfl, SqT.of (s1 _ _ ht), rfl, _, _, rfl, _, _, rfl, rfl, ?_⟩
      have hb1 := s1 _ _ hbb
      have hn12 : (d.ns.map V.str).length ≤ 12 := by rw [List.length_map]; exact gd.hi
      refine ⟨_, rfl, _, rfl, bb, rfl, ⟨_, SqL.of hb1⟩, ?_⟩
      refine comp_listG (xs := d.ns.map V.str) (fun τ => ∃ a, τ = [a]) (fun i v H' => ∃ n a lr, d.ns[i]? = some n ∧ v = .ref a ∧ RowAt C H' a lr (letR n))
        (fun i v H' H'' ⟨n, a, lr, e1, e2, ra⟩ s => ⟨n, a, lr, e1, e2, ra.same s⟩) (Nat.le_trans hn12 (by decide)) (SqL.of hb1) ⟨_, rfl⟩ (fun j x τ H2 Q2 hx s2 hS k2 => ?_) (fun zs H2 s2 hzl hzs dz hdz => ?_)
      · obtain ⟨tc, rfl⟩ := hS
        obtain ⟨n, en, rfl⟩ : ∃ n, d.ns[j]? = some n ∧ x = V.str n := by
          rw [List.getElem?_map] at hx
          cases e : d.ns[j]? with
          | none => rw [e] at hx; cases hx
          | some a => rw [e] at hx; cases hx; exact ⟨a, rfl, rfl⟩
        refine ⟨_, rfl, by show 3 ≤ sizeLine; decide, fun t1 ht1 => ⟨by show 1 ≤ sizeLine; decide, fun l1 hl1 => ?_⟩⟩
        have s3 : Same H2 (upd (upd H2 t1 (.tup [V.int 1, V.str "number", V.int 1])) l1 (.lst [V.ref t1])) := (Same.new ht1).put hl1
        have hts : TmsAt (upd (upd H2 t1 (.tup [V.int 1, V.str "number", V.int 1])) l1 (.lst [V.ref t1])) l1 [⟨1, .num 1⟩] := ⟨_, upd_same, rfl, fun i x e => by
          match i, e with
          | 0, e => cases e; exact ⟨_, rfl, t1, _, rfl, (Same.new hl1) _ _ upd_same, rfl⟩
          | n + 1, e => simp at e⟩
        generalize upd (upd H2 t1 (.tup [V.int 1, V.str "number", V.int 1])) l1 (.lst [V.ref t1]) = H3 at s3 hts
        exact fun x dx hx hdx hne => ⟨x, dx, letR n, l1, rfl, rfl, upd_same, hts.same (new_ins hx hdx), (show 1 ≤ 10 by decide), fun lr H' hlr sb ra => ⟨rfl, k2 _ _ _ ⟨_, rfl⟩ (s3.trans fun b o e => sb b o (new_ins hx hdx b o e) (ne_of_none e hx)) ⟨n, x, lr, en, rfl, ra⟩⟩⟩
      · rw [List.length_map] at hzl
        have hra : RowsAt C (upd H2 dz (.lst zs)) dz (d.ns.map letR) := ⟨zs, upd_same, by rw [List.length_map]; exact hzl, fun m r e => by
          rw [List.getElem?_map] at e
          cases en : d.ns[m]? with
          | none => rw [en] at e; cases e
          | some n =>
            rw [en] at e
            cases e
            have hm : m < zs.length := by rw [hzl]; exact (List.getElem?_eq_some_iff.mp en).1
            obtain ⟨n2, a, lr, e1, e2, ra⟩ := hzs m _ (List.getElem?_eq_getElem hm)
            rw [en] at e1
            cases e1
            exact ⟨a, lr, by rw [List.getElem?_eq_getElem hm, e2], ra.same (Same.new hdz)⟩⟩
        have s3 : Same H1 (upd H2 dz (.lst zs)) := s2.put hdz
        generalize upd H2 dz (.lst zs) = H3 at hra s3
        exact fun x dx hx hdx hne => ⟨x, dx, dotted d.ad, dz, d.ns.map letR, rfl, upd_same, hra.same (new_ins hx hdx), gd.rs (Nat.le_refl _), fun lp H4 hlp sb pa => ⟨rfl, k _ _ _ ⟨_, _, rfl⟩ (s3.trans fun b o e => sb b o (new_ins hx hdx b o e) (ne_of_none e hx)) ⟨d, x, lp, ed, rfl, pa⟩⟩⟩
    have px : ∀ {H' : Hp}, Same H1 H' → PartsX C H' ys (ds.map partD) := fun {H'} s => ⟨by rw [List.length_map, hyl, hxl], fun i p e => by
      rw [List.getElem?_map] at e
      cases ed : ds[i]? with
      | none => rw [ed] at e; cases e
      | some d =>
        rw [ed] at e
        cases e
        have hi : i < ys.length := by rw [hyl, hxl]; exact (List.getElem?_eq_some_iff.mp ed).1
        obtain ⟨d2, a, lr, e1, e2, pa⟩ := hys i _ (List.getElem?_eq_getElem hi)
        rw [ed] at e1
        cases e1
        exact ⟨a, lr, by rw [List.getElem?_eq_getElem hi, e2], pa.same s⟩⟩
    have href : ∀ v ∈ ys, flatV v = true ∨ ∃ p, v = .ref p := fun v hv => by
      obtain ⟨i, hi, e⟩ := List.getElem_of_mem hv
      obtain ⟨d2, a, lr, e1, e2, pa⟩ := hys i _ (List.getElem?_eq_getElem hi)
      exact .inr ⟨a, by rw [← e, e2]⟩
    have s12 : Same H1 (upd H1 hd (.lst ys)) := Same.new hhd
    have hh2 : (upd H1 hd (.lst ys)) hd = some (.lst ys) := upd_same
    generalize upd H1 hd (.lst ys) = H2 at s12 hh2
    refine ⟨_, rfl, hd, _, rfl, .inl (SqL.of hh2), fun kp hkp => ?_⟩
    have s13 : Same H1 (upd H2 kp (.lst ys)) := s12.put hkp
    have hh3 : (upd H2 kp (.lst ys)) hd = some (.lst ys) := (Same.new hkp) _ _ hh2
    have hk3 : (upd H2 kp (.lst ys)) kp = some (.lst ys) := upd_same
    generalize upd H2 kp (.lst ys) = H3 at s13 hh3 hk3
    have s03 := s1.trans s13
    refine ⟨_, rfl, l, _, rfl, .inl (SqL.of (s03 _ _ hl)), by show 2 ≤ sizeLine; decide, fun fp hfp => ?_⟩
    have s34 : Same H3 (upd H3 fp (.tup [V.str "good", V.int (xs.length : Int)])) := Same.new hfp
    have hf4 : (upd H3 fp (.tup [V.str "good", V.int (xs.length : Int)])) fp = some (.tup [V.str "good", V.int (xs.length : Int)]) := upd_same
    generalize upd H3 fp (.tup [V.str "good", V.int (xs.length : Int)]) = H4 at s34 hf4
    have s04 := s03.trans s34
    have s14 := s13.trans s34
    have hh4 := s34 _ _ hh3
    have hk4 := s34 _ _ hk3
    refine ⟨_, rfl, fun x dx hx hdx hne => ⟨x, dx, hd, ds, ys, rfl, upd_same, (new_ins hx hdx) _ _ hh4, px (s14.trans (new_ins hx hdx)), h200, hg, fun c i hdue => ⟨fun hc lh H5 hlh sb hhd hlx => ⟨rfl, ?_⟩, fun hc e H5 s5 er => ?_⟩⟩⟩
    · have s45 : Same H4 H5 := fun b o e => sb b o (new_ins hx hdx b o e) (ne_of_none e hx)
      obtain ⟨_, rfl⟩ : c = 0 ∧ i = ds.length := by
        rcases hdue.2 with z | z
        · exact z
        · exact absurd z.1 (by omega)
      subst hc
      have hok := due_ok hg hdue
      have ht : HouseAt C H5 x lh (ds.map partD) := houseAt_of hhd hlx (px (s14.trans s45))
      obtain ⟨dx2, fs2, ea, b1, b2, b3, b4, _⟩ := id ht
      refine ⟨_, rfl, x, dx2, fs2, rfl, ea, b2, x, lh, _, rfl, ht, hok, fun ba H6 zs hba s6 hz1 hz2 hb6 => ?_⟩
      have s05 := s04.trans s45
      have s06 := s05.trans s6
      refine ⟨_, rfl, l, rfl, ⟨_, SqL.of (s06 _ _ hl)⟩, comp_listI (fun i => ((adsOf ds).map V.str).getD i .non) hx12 (SqL.of (s06 _ _ hl)) (fun i x H' Q' hx sm k => ?_) (fun H7 s7 b hb => ?_)⟩
      · obtain ⟨d, ed, t, bb, rfl, ht, hbb⟩ := tx.at hx
        have k2 : Q' (((adsOf ds).map V.str).getD i .non) H' := k H' (Same.refl _)
        have e : ((adsOf ds).map V.str).getD i .non = V.str (dotted d.ad) := by
          rw [List.getD_eq_getElem?_getD, List.getElem?_map]
          unfold adsOf
          rw [List.getElem?_map, ed]
          rfl
        rw [e] at k2
        exact ⟨_, rfl, t, _, _, _, rfl, rfl, SqT.of ((s06.trans sm) _ _ ht), atI_nat (j := 0) rfl, k2⟩
      have em : (List.range xs.length).map (fun i => ((adsOf ds).map V.str).getD i .non) = (adsOf ds).map V.str := by
        apply List.ext_getElem
        · simp [hxl]
        · intro i h1 h2
          have : i < ds.length := by simpa using h2
          simp [this]
      rw [em]
      have s68 : Same H6 (upd H7 b (.lst ((adsOf ds).map V.str))) := s7.put hb
      have hb8 : (upd H7 b (.lst ((adsOf ds).map V.str))) b = some (.lst ((adsOf ds).map V.str)) := upd_same
      generalize upd H7 b (.lst ((adsOf ds).map V.str)) = H8 at s68 hb8
      have h12 := hok.hi
      rw [List.length_map] at h12
      refine ⟨b, adsOf ds, rfl, SqL.of hb8, by rw [List.length_map]; omega, fun c2 ys2 h1 h2 hc2 => ?_⟩
      obtain rfl : zs = ys2 := sorted_one (hz1.trans (by rw [adS_parts]; exact h1.symm)) hz2 h2
      have s69 : Same H6 (upd H8 c2 (.lst (zs.map V.str))) := s68.put hc2
      have hc9 : (upd H8 c2 (.lst (zs.map V.str))) c2 = some (.lst (zs.map V.str)) := upd_same
      generalize upd H8 c2 (.lst (zs.map V.str)) = H9 at s69 hc9
      have s49 := s45.trans (s6.trans s69)
      refine ⟨ba, c2, rfl, rfl, dsq_same (s69 _ _ hb6) hc9 (strs_flat zs), _, rfl, iteF ?_⟩
      refine ⟨_, rfl, _, rfl, hd, kp, rfl, rfl, dsq_same (s49 _ _ hh4) (s49 _ _ hk4) href, _, rfl, iteF ⟨_, rfl, ?_⟩⟩
      refine q fp H9 0 ds.length (s04.trans s49) hdue ((s49 _ _ hf4).trans ?_)
      rw [hxl]
      rfl
    · have s45 : Same H4 H5 := (new_ins hx hdx).trans s5
      obtain ⟨hc1, hc4, p, e1, e2⟩ := id er
      refine ⟨e, C (21 + c), some p, rfl, e1, T.xf.s (21 + c) (by omega) (by omega), ?_⟩
      refine ⟨_, rfl, e, c, i, rfl, er, fun wp H6 s6 hwp => ?_⟩
      have s46 := s45.trans s6
      refine ⟨_, rfl, _, rfl, hd, kp, rfl, rfl, dsq_same (s46 _ _ hh4) (s46 _ _ hk4) href, _, rfl, iteF ⟨_, rfl, ?_⟩⟩
      exact q wp H6 c i (s04.trans s46) hdue hwp

theorem ok_law {C : Nat → Addr} (T : Tx K mg C) {f : Addr} {fd : FuncData} (F : Fun K "law" "law" s_law f fd) : FnOk P w K mg base CX0 10 f fd psLaw (spLaw K) := by
  obtain ⟨f_law_words, fd_law_words, A_law_words⟩ := T.a_law_words
  have G_law_words : FnOk P w K mg base CX0 2 f_law_words fd_law_words psWords spWords := ok_law_words T A_law_words.F
  obtain ⟨f_law_cell, fd_law_cell, A_law_cell⟩ := T.a_law_cell
  have G_law_cell : FnOk P w K mg base CX0 1 f_law_cell fd_law_cell psCell (spCellN K) := ok_cell A_law_cell.F T.len
  obtain ⟨f_law_addresses, fd_law_addresses, A_law_addresses⟩ := T.a_law_addresses
  have G_law_addresses : FnOk P w K mg base CX0 2 f_law_addresses fd_law_addresses psAddresses spAdrs2 := ok_law_addresses T A_law_addresses.F
  obtain ⟨f_law_pick, fd_law_pick, A_law_pick⟩ := T.a_law_pick
  have G_law_pick : FnOk P w K mg base CX0 1 f_law_pick fd_law_pick psPick spPick := ok_pick A_law_pick.F
  obtain ⟨f_law_told, fd_law_told, A_law_told⟩ := T.a_law_told
  have G_law_told : FnOk P w K mg base CX0 9 f_law_told fd_law_told psTold (spTold C) := ok_law_told T A_law_told.F
  obtain ⟨f_law_due, fd_law_due, A_law_due⟩ := T.a_law_due
  have G_law_due : FnOk P w K mg base CX0 1 f_law_due fd_law_due psDue spDue2 := ok_law_due T A_law_due.F
  obtain ⟨f_law_spoilt, fd_law_spoilt, A_law_spoilt⟩ := T.a_law_spoilt
  have G_law_spoilt : FnOk P w K mg base CX0 2 f_law_spoilt fd_law_spoilt psSpoilt spSpoilt := ok_law_spoilt T A_law_spoilt.F
  refine F.ok scLaw (fun vs H Q E h => ?_) (fun cdv A outer s H vs Q E hr h => ?_)
  · obtain ⟨S, ns, rfl, _⟩ := h
    rfl
  · obtain ⟨S, ns, rfl, hS, hlen, q⟩ := h
    have hr1 : Room 1 _ := hr.mono (by decide)
    have hr2 : Room 2 _ := hr.mono (by decide)
    have hr9 : Room 9 _ := hr
    refine ⟨_, QSs.h (qss_cons (qs_set (i := 1) scLaw.nd rfl (Or.inl rfl) (pcall A_law_words G_law_words hr2 (pa_cons (pcall A_law_cell G_law_cell hr1 (pa_cons (pv 0) (pa_cons pe_int pa_nil))) pa_nil)))
      (qss_cons (qs_set (i := 2) scLaw.nd rfl (Or.inl rfl) (pcall A_law_cell G_law_cell hr1 (pa_cons (pv 0) (pa_cons pe_int pa_nil))))
      (qss_cons (qs_set (i := 3) scLaw.nd rfl (Or.inl rfl) (pcall A_law_addresses G_law_addresses hr2 (pa_cons (pcall A_law_cell G_law_cell hr1 (pa_cons (pv 0) (pa_cons pe_int pa_nil))) (pa_cons (pe_op op_add pe_int (pcall A_law_pick G_law_pick hr1 (pa_cons (pv 2) (pa_cons pe_int (pa_cons pe_int pa_nil))))) (pa_cons (pv 1) pa_nil)))))
      (qss_cons (qs_set (i := 4) scLaw.nd rfl (Or.inl rfl) (pe_lst pa_nil))
      (qss_cons (qs_for PassesOwn.never rfl (pi_range1 (by rfl) T.range (pa_cons (pe_callB call_len_seq (by rfl) T.len PySem.boot_len (pa_cons (pv 3) pa_nil)) pa_nil)) (pg_name (i := 5) scLaw.nd rfl (Or.inl rfl))
      (qss_cons (qs_set (i := 6) scLaw.nd rfl (Or.inl rfl) (pe_slice sl_list (pe_lst (pa_cons (pe_ix ix_list (pv 1) (pcall A_law_pick G_law_pick hr1 (pa_cons (pv 2) (pa_cons (pv 5) (pa_cons pe_int pa_nil)))) (fun _ _ => rfl)) pa_nil)) po_none (po_some (pcall A_law_pick G_law_pick hr1 (pa_cons (pv 2) (pa_cons (pe_op op_add (pv 5) pe_int) (pa_cons pe_int pa_nil)))))))
      (qss_one (qs_expr (pe_bm PySem.F.plainAttrs_list PySem.F.slot_list_append PySem.F.type_list_append mt_append (pv 4) (pa_cons (pe_tup (pa_cons (pe_ix ix_list (pv 3) (pv 5) (fun _ _ => rfl)) (pa_cons (pv 6) pa_nil))) pa_nil))))))
      (qss_cons (qs_for PassesOwn.never rfl (pi_range1 (by rfl) T.range (pa_cons pe_int pa_nil)) (pg_name (i := 7) scLaw.nd rfl (Or.inl rfl))
      (qss_cons (qs_if (pt_cmpR (op_neD (K := K) rfl hr.units) (pcall A_law_told G_law_told hr9 (pa_cons (pv 4) pa_nil)) (pcall A_law_due G_law_due hr1 (pa_cons (pv 4) pa_nil)) (nomark _)) (qss_one (qs_ret pe_bl)) qss_nil)
      (qss_cons (qs_for PassesOwn.never rfl (pi_range1 (by rfl) T.range (pa_cons (pcall A_law_pick G_law_pick hr1 (pa_cons (pv 2) (pa_cons pe_int (pa_cons pe_int pa_nil)))) pa_nil)) (pg_name (i := 5) scLaw.nd rfl (Or.inl rfl))
      (qss_one (qs_set (i := 4) scLaw.nd rfl (Or.inl rfl) (pcall A_law_spoilt G_law_spoilt hr2 (pa_cons (pv 4) (pa_cons (pcall A_law_cell G_law_cell hr1 (pa_cons (pv 0) (pa_cons (pe_op op_add (pe_op op_add pe_int (pe_op op_mul pe_int (pv 7))) (pv 5)) pa_nil))) (pa_cons (pv 1) pa_nil)))))))
      (qss_one (qs_if (PW.pt (pw_or (pt_cmpR (op_neD (K := K) rfl hr.units) (pcall A_law_told G_law_told hr9 (pa_cons (pv 4) pa_nil)) (pcall A_law_due G_law_due hr1 (pa_cons (pv 4) pa_nil)) (nomark _)) (pw_or1 (pt_cmpR (op_neD (K := K) rfl hr.units) (pcall A_law_told G_law_told hr9 (pa_cons (pv 4) pa_nil)) (pcall A_law_due G_law_due hr1 (pa_cons (pv 4) pa_nil)) (nomark _))))) (qss_one (qs_ret pe_bl)) qss_nil)))))
      (qss_one (qs_ret pe_bl)))))))), ?_⟩
    refine ⟨_, rfl, S, ns, 1, rfl, hS, by decide, fun H1 s1 => ⟨_, rfl, fun lw H2 ws hlw0 s2 hw8 hwn hlw => ?_⟩⟩
    have s02 := s1.trans s2
    refine ⟨_, rfl, S, ns, 0, rfl, s02.seq hS, by decide, fun H3 s3 => ?_⟩
    generalize cellN ns 0 = hd
    refine ⟨_, rfl, S, ns, 2, rfl, (s02.trans s3).seq hS, by decide, fun H4 s4 => ⟨_, rfl, hd, 0, 14, rfl, by decide, by decide, by decide, fun H5 s5 => ⟨_, _, rfl, rfl, ?_⟩⟩⟩
    have k1 := pick_ge hd 0 (m := 14) (by decide)
    have k2 := pick_lt hd 0 (m := 14) (by decide)
    generalize pick hd 0 14 = mn at k1 k2
    have s25 := s3.trans (s4.trans s5)
    refine ⟨_, rfl, _, _, lw, ws, rfl, by omega, by omega, s25 _ _ hlw, hw8, hwn, fun la H6 as _ s6 hne g hla => ?_⟩
    have s26 := s25.trans s6
    have hS6 := (s02.trans s26).seq hS
    have hlw6 := s26 _ _ hlw
    clear s1 s2 s3 s4 s5 s6 s02 s25 s26 hS hlw hlw0
    have hw0 : ws ≠ [] := fun z => by rw [z] at hw8; cases hw8
    have h14 := g.hi
    refine ⟨by show 0 ≤ sizeLine; decide, fun So hSo => ?_⟩
    have s7 : Same H6 (upd H6 So (.lst [])) := Same.new hSo
    have hSo7 : (upd H6 So (.lst [])) So = some (.lst []) := upd_same
    generalize upd H6 So (.lst []) = H7 at s7 hSo7
    have hal : ((as.map dotted).map V.str).length = as.length := by rw [List.length_map, List.length_map]
    refine ⟨_, rfl, la, _, rfl, .inl (SqL.of (s7 _ _ hla)), _, rfl, by omega, by omega, ?_⟩
    refine for_range (fun i σ H' => ∃ v5 v6 xs ds, σ = [some (.ref S), some (.ref lw), some (.int hd), some (.ref la), some (.ref So), v5, v6, none] ∧ Same H6 H' ∧ H' So = some (.lst xs) ∧ TX (without H' So) xs ds ∧ ds.length = i ∧ ∀ d ∈ ds, G2 1 d)
      ⟨none, none, [], [], rfl, s7, hSo7, ⟨rfl, fun i d e => by cases e⟩, rfl, fun d hd => by cases hd⟩ ?_ ?_
    · rintro i σ H8 hi ⟨v5, v6, xs, ds, rfl, sm, hSo8, tx, hdl, hgd⟩
      have hi : i < as.length := by omega
      have eas : as[i]? = some as[i] := List.getElem?_eq_getElem hi
      have gas := g.ok _ (List.getElem_mem hi)
      generalize as[i] = a at eas gas
      obtain ⟨w, hw, eaw⟩ := at_pick (c := hd) (k := 0 + (i : Int)) hw0
      rw [hw8] at eaw
      have nw := hwn w hw
      refine ⟨_, rfl, _, rfl, _, rfl, hd, 0 + (i : Int), 8, rfl, by omega, by omega, by decide, fun H9 s9 => ⟨lw, _, _, _, rfl, rfl, SqL.of ((sm.trans s9) _ _ hlw6), eaw, by show 1 ≤ sizeLine; decide, fun wl hwl => ?_⟩⟩
      have s9A : Same H8 (upd H9 wl (.lst [V.str w])) := s9.put hwl
      have hwA : (upd H9 wl (.lst [V.str w])) wl = some (.lst ([w].map V.str)) := upd_same
      generalize upd H9 wl (.lst [V.str w]) = HA at s9A hwA
      have p0 := pick_ge hd (0 + (i : Int) + 1) (m := 2) (by decide)
      refine ⟨_, rfl, _, rfl, _, _, rfl, rfl, hd, 0 + (i : Int) + 1, 2, rfl, by omega, by omega, by decide, fun HB sB => ⟨_, rfl, wl, _, rfl, SqL.of (sB _ _ hwA), fun nl hnl => ?_⟩⟩
      rw [cut_strs [w] p0]
      have hnn : ([w].take (pick hd (0 + (i : Int) + 1) 2).toNat).length ≤ 1 := by rw [List.length_take]; exact Nat.min_le_right _ _
      have hnm : ∀ y ∈ [w].take (pick hd (0 + (i : Int) + 1) 2).toNat, IsNm y := fun y hy => by rw [List.mem_singleton.mp (List.mem_of_mem_take hy)]; exact nw
      generalize [w].take (pick hd (0 + (i : Int) + 1) 2).toNat = nn at hnn hnm
      have sBC : Same HB (upd HB nl (.lst (nn.map V.str))) := Same.new hnl
      have hnC : (upd HB nl (.lst (nn.map V.str))) nl = some (.lst (nn.map V.str)) := upd_same
      have hnS : nl ≠ So := (ne_of_none ((s9A.trans sB) _ _ hSo8) hnl).symm
      generalize upd HB nl (.lst (nn.map V.str)) = HC at sBC hnC
      have s8C := s9A.trans (sB.trans sBC)
      have eat : atI ((as.map dotted).map V.str) (0 + (i : Int)) = some (V.str (dotted a)) := by
        rw [Int.zero_add]; exact atI_nat (by rw [List.getElem?_map, List.getElem?_map, eas]; rfl)
      refine ⟨_, rfl, .inl ⟨rfl, _, SqL.of (s8C _ _ hSo8)⟩, _, rfl, _, rfl, la, _, _, _, rfl, rfl, SqL.of ((sm.trans s8C) _ _ hla), eat, _, rfl, by show 2 ≤ sizeLine; decide, fun tp htp => ?_⟩
      have sCD : Same HC (upd HC tp (.tup [V.str (dotted a), V.ref nl])) := Same.new htp
      have htD : (upd HC tp (.tup [V.str (dotted a), V.ref nl])) tp = some (.tup [V.str (dotted a), V.ref nl]) := upd_same
      have htS : tp ≠ So := (ne_of_none (s8C _ _ hSo8) htp).symm
      generalize upd HC tp (.tup [V.str (dotted a), V.ref nl]) = HD at sCD htD
      have s8D := s8C.trans sCD
      have hxl := tx.1
      refine ⟨So, _, _, rfl, rfl, s8D _ _ hSo8, Nat.lt_of_lt_of_le (show xs.length < 1000 by omega) big1000, ?_⟩
      refine ⟨_, _, xs ++ [V.ref tp], ds ++ [⟨a, nn⟩], rfl, (sm.trans s8D).over hSo, upd_same, ((tx.same (Mine.Same.woth s8D)).append (TX.one (d := ⟨a, nn⟩) (t := tp) (b := nl) (by rw [without_ne htS]; exact htD) (by rw [without_ne hnS]; exact sCD _ _ hnC))).same without_upd, by rw [List.length_append, hdl]; rfl, fun d hd => ?_⟩
      rcases List.mem_append.mp hd with k | k
      · exact hgd d k
      · rw [List.mem_singleton.mp k]; exact ⟨gas, hnn, hnm⟩
    · rintro σ H8 ⟨v5, v6, xs, ds, rfl, sm, hSo8, tx, hdl, hgd⟩
      have hdl : ds.length = as.length := by omega
      have hdne : ds ≠ [] := fun z => by rw [z] at hdl; exact hne (List.eq_nil_of_length_eq_zero hdl.symm)
      have hs8 : SomeAt H8 So ds := ⟨xs, hSo8, tx.same (same_without _ _)⟩
      have gs8 : Gs 0 ds := ⟨hdne, by omega, hgd⟩
      have hS8 := sm.seq hS6
      have hlw8 := sm _ _ hlw6
      clear tx hSo8 sm s7 hSo7
      have big : ∀ {n : Nat} {ds : List D2}, Gs n ds → n ≤ 8 → ds.length ≤ 200 ∧ ∀ d ∈ ds, G2 12 d := fun g h => ⟨by have := g.hi; omega, fun d hd => (g.ok d hd).mono (by omega)⟩
      refine ⟨_, rfl, by decide, by decide, ?_⟩
      refine for_range (fun i σ H' => ∃ v5 v6 v7 l ds n, σ = [some (.ref S), some (.ref lw), some (.int hd), some (.ref la), some (.ref l), v5, v6, v7] ∧ Same H8 H' ∧ SomeAt H' l ds ∧ Gs n ds ∧ n ≤ 4 * i) ⟨_, _, none, So, ds, 0, rfl, Same.refl _, hs8, gs8, Nat.zero_le _⟩ ?_ ?_
      · rintro i σ H9 hi ⟨v5, v6, v7, l, ds, n, rfl, sm, hs, gs, hn⟩
        have hi : i < 2 := hi
        obtain ⟨b1, b2⟩ := big gs (by omega)
        refine ⟨_, rfl, l, ds, rfl, hs, b1, b2, fun p HA c k sA hdA hpA => ?_⟩
        refine ⟨_, rfl, l, ds, rfl, hs.same sA, b1, b2, fun p2 HB c2 k2 sB hdB hpB => ?_⟩
        obtain ⟨rfl, rfl⟩ := due_one hdA hdB
        refine ⟨p, p2, rfl, rfl, dsq_tup (sB _ _ hpA) hpB (word_flat _ _), _, rfl, iteF ?_⟩
        have s9B := sA.trans sB
        have smB := sm.trans s9B
        have q0 := pick_ge hd 3 (m := 5) (by decide)
        have q1 := pick_lt hd 3 (m := 5) (by decide)
        refine ⟨_, rfl, hd, 3, 5, rfl, by decide, by decide, by decide, fun HC sC => ⟨_, rfl, by omega, by omega, ?_⟩⟩
        generalize pick hd 3 5 = mk at q0 q1
        refine for_range (fun j σ H' => ∃ v5 v6 l ds n, σ = [some (.ref S), some (.ref lw), some (.int hd), some (.ref la), some (.ref l), v5, v6, some (.int (0 + (i : Int)))] ∧ Same H8 H' ∧ SomeAt H' l ds ∧ Gs n ds ∧ n ≤ 4 * i + j) ⟨_, _, l, ds, n, rfl, smB.trans sC, hs.same (s9B.trans sC), gs, by omega⟩ ?_ ?_
        · clear hs gs hn b1 b2 hdA hdB hpA hpB sm smB s9B
          rintro j σ HD hj ⟨v5, v6, l, ds, n, rfl, sm, hs, gs, hn⟩
          have hj : j < mk.toNat := hj
          refine ⟨_, rfl, _, rfl, _, rfl, _, _, rfl, rfl, .inl ⟨by decide, by decide⟩, _, _, rfl, rfl, _, rfl, _, _, rfl, rfl, S, ns, _, rfl, sm.seq hS8, by omega, fun HE sE => ⟨_, rfl, l, lw, _, ds, n, ws, rfl, hs.same sE, gs, by omega, (sm.trans sE) _ _ hlw8, hw8, hwn, fun l' HF es sF hs' gs' => ?_⟩⟩
          exact ⟨_, _, l', es, n + 1, rfl, sm.trans (sE.trans sF), hs', gs', by omega⟩
        · clear hs gs hn b1 b2 hdA hdB hpA hpB sm smB s9B
          rintro σ HD ⟨v5, v6, l, ds, n, rfl, sm, hs, gs, hn⟩
          have hn4 : n ≤ 4 * (i + 1) := by omega
          obtain ⟨b1, b2⟩ := big gs (by omega)
          refine ⟨_, rfl, l, ds, rfl, hs, b1, b2, fun p HA c k sA hdA hpA => ?_⟩
          refine ⟨_, rfl, l, ds, rfl, hs.same sA, b1, b2, fun p2 HB c2 k2 sB hdB hpB => ?_⟩
          obtain ⟨rfl, rfl⟩ := due_one hdA hdB
          refine ⟨p, p2, rfl, rfl, dsq_tup (sB _ _ hpA) hpB (word_flat _ _), _, rfl, iteF ?_⟩
          have hsB := hs.same (sA.trans sB)
          refine ⟨_, rfl, l, ds, rfl, hsB, b1, b2, fun p3 HE c3 k3 sE hdE hpE => ?_⟩
          refine ⟨_, rfl, l, ds, rfl, hsB.same sE, b1, b2, fun p4 HF c4 k4 sF hdF hpF => ?_⟩
          obtain ⟨rfl, rfl⟩ := due_one hdE hdF
          refine ⟨p3, p4, rfl, rfl, dsq_tup (sF _ _ hpE) hpF (word_flat _ _), _, rfl, iteF ?_⟩
          exact ⟨_, _, _, l, ds, n, rfl, sm.trans ((sA.trans sB).trans (sE.trans sF)), hsB.same (sE.trans sF), gs, hn4⟩
      · rintro σ H9 ⟨v5, v6, v7, l, ds, n, rfl, sm, hs, gs, hn⟩
        exact q _

end

noncomputable def FI (K : PySem.W.Frag) (x : Str) (st : Stmt) : Prop := ∃ f fd, PySem.W.nsIn K mainGlobals x = some (some (.ref f)) ∧ Fun K x x st f fd
theorem fi {K : PySem.W.Frag} {x : Str} {st : Stmt} {f : Addr} {oc : Value} {od an : Option Addr} {osl : Array (Option Value)} {kV doc pm cdv ct : Value} (a : PySem.W.nsIn K mainGlobals x = some (some (.ref f))) (l : K.lookup f = some ⟨oc, od, .func (PySem.W.fnOf x x (defArgs st) (defBody st) (defScope st) .none kV doc pm an cdv ct), osl⟩) (c : PySem.W.codeIn K cdv x = true) (k : PySem.W.keepIn K (.ref f) = true) : FI K x st := ⟨f, _, a, fun_mk l c k⟩
noncomputable def MI (K : PySem.W.Frag) (g : Addr) (x q : Str) (st : Stmt) : Prop := (∃ fd, Fun K x q st g fd) ∧ PySem.W.isFn K (.ref g) = true ∧ PySem.W.keepIn K (.ref g) = true
theorem mi {K : PySem.W.Frag} {x q : Str} {st : Stmt} {f : Addr} {oc : Value} {od an : Option Addr} {osl : Array (Option Value)} {kV doc pm cdv ct : Value} (l : K.lookup f = some ⟨oc, od, .func (PySem.W.fnOf x q (defArgs st) (defBody st) (defScope st) .none kV doc pm an cdv ct), osl⟩) (c : PySem.W.codeIn K cdv q = true) (k : PySem.W.keepIn K (.ref f) = true) (i : PySem.W.isFn K (.ref f) = true) : MI K f x q st := ⟨⟨_, fun_mk l c k⟩, i, k⟩
structure CI (K : PySem.W.Frag) (C : Addr) (x : Str) : Prop where
  A : PySem.W.nsIn K mainGlobals x = some (some (.ref C))
  pg : PySem.W.plainGet K C Str.empty = true
  hd : PySem.W.hasDictIn K C = true
  po : PySem.W.plainOver K C = true
  sa : PySem.W.findIn K (.ref C) "__setattr__" = some (some (.builtin "object.__setattr__"))
  mq : PySem.W.makesIn K C = true
  kc : PySem.W.keepIn K (.ref C) = true
  ca : PySem.W.findIn K (.ref C) "__class__" = some (some (.builtin "object.__class__"))
  mo : PySem.W.mroIn K C (.type "object") = some true
  ty : PySem.W.typeIn K (.ref C) = some (.type "type")
  mm : PySem.W.mroIn K C (.ref C) = some true
noncomputable def BA (x q : Str) (st : Stmt) (ps : List Str) (n : Nat) : Prop := ∀ (kV doc pm : Value) (an : Option Addr) (cdv ct : Value) (us : List Value), us.length = n → bindArgs (PySem.W.fnOf x q (defArgs st) (defBody st) (defScope st) .none kV doc pm an cdv ct) ⟨us, []⟩ = pure (ps.zip us)
theorem ba1 {x q : Str} {st : Stmt} {ps : List Str} (h : ∀ (kV doc pm : Value) (an : Option Addr) (cdv ct a : Value), bindArgs (PySem.W.fnOf x q (defArgs st) (defBody st) (defScope st) .none kV doc pm an cdv ct) ⟨[a], []⟩ = pure (ps.zip [a])) : BA x q st ps 1 := fun _ _ _ _ _ _ us hl => by obtain ⟨a, rfl⟩ := len1 hl; exact h ..
theorem ba2 {x q : Str} {st : Stmt} {ps : List Str} (h : ∀ (kV doc pm : Value) (an : Option Addr) (cdv ct a b : Value), bindArgs (PySem.W.fnOf x q (defArgs st) (defBody st) (defScope st) .none kV doc pm an cdv ct) ⟨[a, b], []⟩ = pure (ps.zip [a, b])) : BA x q st ps 2 := fun _ _ _ _ _ _ us hl => by obtain ⟨a, b, rfl⟩ := len2 hl; exact h ..
theorem ba3 {x q : Str} {st : Stmt} {ps : List Str} (h : ∀ (kV doc pm : Value) (an : Option Addr) (cdv ct a b c : Value), bindArgs (PySem.W.fnOf x q (defArgs st) (defBody st) (defScope st) .none kV doc pm an cdv ct) ⟨[a, b, c], []⟩ = pure (ps.zip [a, b, c])) : BA x q st ps 3 := fun _ _ _ _ _ _ us hl => by obtain ⟨a, b, c, rfl⟩ := len3 hl; exact h ..
theorem fat {K : PySem.W.Frag} {h : Heap} {mg : Str → Option Value} {x : Str} {st : Stmt} {ps : List Str} (X : K.In h) (G : h.Ns mainGlobals mg) (b : BA x x st ps ps.length) (i : FI K x st) : ∃ f fd, FnAt K mg x st ps f fd := by
  obtain ⟨f, fd, a, F⟩ := i
  exact ⟨f, fd, F, F.binds b, PySem.W.mg_of X G a⟩
theorem mat0 {K : PySem.W.Frag} {g : Addr} {x q : Str} {st : Stmt} {ps : List Str} {p : Addr → Prop} (b : BA x q st ps ps.length) (i : MI K g x q st) (z : PySem.W.isFn K (.ref g) = true → PySem.W.keepIn K (.ref g) = true → p g) : ∃ f fd, MAt K x q st ps f fd ∧ p f := by
  obtain ⟨⟨fd, F⟩, i1, i2⟩ := i
  exact ⟨g, fd, ⟨F, F.binds b⟩, z i1 i2⟩

theorem all_mk {l : PySem.W.OpenLaw} {w : World} {K : PySem.W.Frag} {h : Heap} {mg : Str → Option Value} {fa g0 g1 g2 g3 g4 g5 C0 C7 C8 gx22 gx23 gx24 gx25 C21 C22 C23 C24 C25 C26 C27 C28 C29 C30 C20 N20 : Addr} (X : K.In h) (G : h.Ns mainGlobals mg) (hfa : mg "law" = some (.ref fa))
    {nm20 qn20 : Str} {bs20 sub20 : List Value} {sn20 : List Str} {ab20 : Bool} {col20 : Option Bool} {dd20 : Option Addr} {x020 x120 x220 x320 x520 : Option Value} {oN : Value} {dN : Option Addr} {esN : Array DictEntry} {nN : Nat} {slN : Array (Option Value)}
    {tk0 : Tok}
    (h0 : FI K "parent_of" s_parent_of)
    (h1 : FI K "is_orphan" s_is_orphan)
    (h2 : FI K "is_clash" s_is_clash)
    (h3 : FI K "check_parts" s_check_parts)
    (h4 : FI K "_law_cell" s_law_cell)
    (h5 : FI K "_law_pick" s_law_pick)
    (h6 : FI K "_law_words" s_law_words)
    (h7 : FI K "_law_addresses" s_law_addresses)
    (h8 : FI K "_law_spoilt" s_law_spoilt)
    (h9 : FI K "_law_due" s_law_due)
    (h10 : FI K "_law_word" s_law_word)
    (h11 : FI K "_law_told" s_law_told)
    (h12 : FI K "law" s_law)
    (D0 : CI K C0 "Let")
    (D7 : CI K C7 "Part")
    (D8 : CI K C8 "House")
    (nf0x0 : PySem.W.findIn K (.ref C0) "name" = some none)
    (nf0x1 : PySem.W.findIn K (.ref C0) "terms" = some none)
    (nf7x0 : PySem.W.findIn K (.ref C7) "address" = some none)
    (nf7x1 : PySem.W.findIn K (.ref C7) "rows" = some none)
    (nf8x0 : PySem.W.findIn K (.ref C8) "told" = some none)
    (u0x8 : PySem.W.findIn K (.ref C8) "__init__" = some (some (.ref g0)))
    (j0 : MI K g0 "__init__" "House.__init__" s_m_House___init__)
    (u1x8 : PySem.W.findIn K (.ref C8) "addresses" = some (some (.ref g1)))
    (j1 : MI K g1 "addresses" "House.addresses" s_m_House_addresses)
    (u2x7 : PySem.W.findIn K (.ref C7) "__init__" = some (some (.ref g2)))
    (j2 : MI K g2 "__init__" "Part.__init__" s_m_Part___init__)
    (u3x7 : PySem.W.findIn K (.ref C7) "bound" = some (some (.ref g3)))
    (j3 : MI K g3 "bound" "Part.bound" s_m_Part_bound)
    (u4x0 : PySem.W.findIn K (.ref C0) "__init__" = some (some (.ref g4)))
    (j4 : MI K g4 "__init__" "Let.__init__" s_m_Let___init__)
    (u5x0 : PySem.W.findIn K (.ref C0) "binds" = some (some (.ref g5)))
    (j5 : MI K g5 "binds" "Let.binds" s_m_Let_binds)
    (A20 : PySem.W.nsIn K mainGlobals "HouseError" = some (some (.ref C20)))
    (B20 : K.lookup C20 = some (excClassObj nm20 qn20 C20 N20 bs20 veMro true sn20 sub20 ab20 col20 dd20 x020 x120 x220 x320 x520 "ValueError.__new__"))
    (X22 : XI K C20 C22 gx22 "TooMany")
    (jx22 : MI K gx22 "__init__" "TooMany.__init__" s_i_TooMany)
    (X23 : XI K C20 C23 gx23 "Double")
    (jx23 : MI K gx23 "__init__" "Double.__init__" s_i_Double)
    (X24 : XI K C20 C24 gx24 "Orphan")
    (jx24 : MI K gx24 "__init__" "Orphan.__init__" s_i_Orphan)
    (X25 : XI K C20 C25 gx25 "Clash")
    (jx25 : MI K gx25 "__init__" "Clash.__init__" s_i_Clash)
    (A21 : PySem.W.nsIn K mainGlobals "NoPart" = some (some (.ref C21)))
    (B21 : ClAt K C21 (.ref C20 :: veMro))
    (A26 : PySem.W.nsIn K mainGlobals "NoDrop" = some (some (.ref C26)))
    (B26 : ClAt K C26 (.ref C20 :: veMro))
    (A27 : PySem.W.nsIn K mainGlobals "NoExpr" = some (some (.ref C27)))
    (B27 : ClAt K C27 (.ref C20 :: veMro))
    (A28 : PySem.W.nsIn K mainGlobals "NoName" = some (some (.ref C28)))
    (B28 : ClAt K C28 (.ref C20 :: veMro))
    (A29 : PySem.W.nsIn K mainGlobals "NoText" = some (some (.ref C29)))
    (B29 : ClAt K C29 (.ref C20 :: veMro))
    (A30 : PySem.W.nsIn K mainGlobals "Twice" = some (some (.ref C30)))
    (B30 : ClAt K C30 (.ref C20 :: veMro))
    (y1 : PySem.W.specialIn K (.ref C20) "__getattribute__" = some (some (.builtin "type.__getattribute__")))
    (y2 : PySem.W.readsIn K C20 (.type "type") = true)
    (y3 : PySem.W.findCls K (.ref C20) (.type "type") "__init__" = some (.val (.builtin "ValueError.__init__")))
    (NH : K.lookup N20 = some ⟨oN, dN, .dict esN nN, slN⟩)
    (SK : strKeysB esN = true)
    (NI : nsFind esN "__init__" = none)
    (ND : [C20, C21, C22, C23, C24, C25, C26, C27, C28, C29, C30].Nodup)
    (cg : PySem.W.specialIn K (.builtin "object.__class__") "__get__" = some (some (.builtin "getset_descriptor.__get__")))
    (ctk : PySem.W.takesIn K (.builtin "object.__class__") = some true)
    (gc0 : PySem.W.nsIn K mainGlobals "MOST_PARTS" = some (some (.int 12 tk0)))
    (z0 : PySem.W.nsIn K mainGlobals "sorted" = some none)
    (z1 : PySem.W.nsIn K mainGlobals "dict" = some none)
    (z2 : PySem.W.nsIn K mainGlobals "any" = some none)
    (z3 : PySem.W.nsIn K mainGlobals "enumerate" = some none)
    (z4 : PySem.W.nsIn K mainGlobals "len" = some none)
    (z5 : PySem.W.nsIn K mainGlobals "range" = some none)
    (z6 : PySem.W.nsIn K mainGlobals "isinstance" = some none)
    (z7 : PySem.W.nsIn K mainGlobals "str" = some none)
    (z8 : PySem.W.nsIn K mainGlobals "int" = some none)
    (z9 : PySem.W.nsIn K mainGlobals "bool" = some none)
    (z10 : PySem.W.nsIn K mainGlobals "list" = some none)
    (z11 : PySem.W.nsIn K mainGlobals "tuple" = some none)
    (z12 : PySem.W.nsIn K mainGlobals "all" = some none)
    (z13 : PySem.W.nsIn K mainGlobals "max" = some none)
    (z14 : PySem.W.nsIn K mainGlobals "min" = some none)
    (z15 : PySem.W.nsIn K mainGlobals "zip" = some none)
    (z16 : PySem.W.nsIn K mainGlobals "ValueError" = some none) :
    ∃ fd : FuncData, (∀ (s : Shared) (v : Value), BindsTo s fd ⟨[v], []⟩ [("_law_script", v)]) ∧ ∀ base : Heap, K.In base → base.Ns mainGlobals mg → FnOk l.prog w K mg base CX0 10 fa fd ["_law_script"] (spLaw K) := by
  have R0 : RCl K C0 := ⟨⟨D0.pg, D0.hd, D0.po, D0.sa⟩, D0.ca, cg, ctk, D0.mo⟩
  have R7 : RCl K C7 := ⟨⟨D7.pg, D7.hd, D7.po, D7.sa⟩, D7.ca, cg, ctk, D7.mo⟩
  have R8 : RCl K C8 := ⟨⟨D8.pg, D8.hd, D8.po, D8.sa⟩, D8.ca, cg, ctk, D8.mo⟩
  have FM : RFam1 K (fun i => [C0, 0, 0, 0, 0, 0, 0, C7, C8, 0, 0, 0, 0, 0, 0, 0, 0, 0, 0, 0, C20, C21, C22, C23, C24, C25, C26, C27, C28, C29, C30].getD i 0) := ⟨fun i h => by subst h; exact R0, fun i h => by subst h; exact nf0x0, fun i h => by subst h; exact nf0x1⟩
  have KX : ∀ i, 22 ≤ i → i ≤ 25 → ∀ j, 22 ≤ j → j ≤ 25 → PySem.W.kitOne K (.ref ([C0, 0, 0, 0, 0, 0, 0, C7, C8, 0, 0, 0, 0, 0, 0, 0, 0, 0, 0, 0, C20, C21, C22, C23, C24, C25, C26, C27, C28, C29, C30].getD i 0)) (.ref ([C0, 0, 0, 0, 0, 0, 0, C7, C8, 0, 0, 0, 0, 0, 0, 0, 0, 0, 0, 0, C20, C21, C22, C23, C24, C25, C26, C27, C28, C29, C30].getD j 0)) = some (decide (i = j)) :=
    all4x (all4x (cl_self X22.l) (cl_no X22.l X23.l (nd_ne ND (i := 3) (j := 0) rfl rfl (by decide)) (nd_ne ND (i := 3) (j := 2) rfl rfl (by decide))) (cl_no X22.l X24.l (nd_ne ND (i := 4) (j := 0) rfl rfl (by decide)) (nd_ne ND (i := 4) (j := 2) rfl rfl (by decide))) (cl_no X22.l X25.l (nd_ne ND (i := 5) (j := 0) rfl rfl (by decide)) (nd_ne ND (i := 5) (j := 2) rfl rfl (by decide)))) (all4x (cl_no X23.l X22.l (nd_ne ND (i := 2) (j := 0) rfl rfl (by decide)) (nd_ne ND (i := 2) (j := 3) rfl rfl (by decide))) (cl_self X23.l) (cl_no X23.l X24.l (nd_ne ND (i := 4) (j := 0) rfl rfl (by decide)) (nd_ne ND (i := 4) (j := 3) rfl rfl (by decide))) (cl_no X23.l X25.l (nd_ne ND (i := 5) (j := 0) rfl rfl (by decide)) (nd_ne ND (i := 5) (j := 3) rfl rfl (by decide)))) (all4x (cl_no X24.l X22.l (nd_ne ND (i := 2) (j := 0) rfl rfl (by decide)) (nd_ne ND (i := 2) (j := 4) rfl rfl (by decide))) (cl_no X24.l X23.l (nd_ne ND (i := 3) (j := 0) rfl rfl (by decide)) (nd_ne ND (i := 3) (j := 4) rfl rfl (by decide))) (cl_self X24.l) (cl_no X24.l X25.l (nd_ne ND (i := 5) (j := 0) rfl rfl (by decide)) (nd_ne ND (i := 5) (j := 4) rfl rfl (by decide)))) (all4x (cl_no X25.l X22.l (nd_ne ND (i := 2) (j := 0) rfl rfl (by decide)) (nd_ne ND (i := 2) (j := 5) rfl rfl (by decide))) (cl_no X25.l X23.l (nd_ne ND (i := 3) (j := 0) rfl rfl (by decide)) (nd_ne ND (i := 3) (j := 5) rfl rfl (by decide))) (cl_no X25.l X24.l (nd_ne ND (i := 4) (j := 0) rfl rfl (by decide)) (nd_ne ND (i := 4) (j := 5) rfl rfl (by decide))) (cl_self X25.l))
  have KT22 : PySem.W.kitAny K (.ref C22) ([C26, C27, C28, C21, C29, C30].map Value.ref) = some false := kit_any (fun c hc => by
      simp only [List.map_cons, List.map_nil, List.mem_cons, List.not_mem_nil, or_false] at hc
      rcases hc with rfl | rfl | rfl | rfl | rfl | rfl
      · exact cl_no X22.l B26 (nd_ne ND (i := 6) (j := 0) rfl rfl (by decide)) (nd_ne ND (i := 6) (j := 2) rfl rfl (by decide))
      · exact cl_no X22.l B27 (nd_ne ND (i := 7) (j := 0) rfl rfl (by decide)) (nd_ne ND (i := 7) (j := 2) rfl rfl (by decide))
      · exact cl_no X22.l B28 (nd_ne ND (i := 8) (j := 0) rfl rfl (by decide)) (nd_ne ND (i := 8) (j := 2) rfl rfl (by decide))
      · exact cl_no X22.l B21 (nd_ne ND (i := 1) (j := 0) rfl rfl (by decide)) (nd_ne ND (i := 1) (j := 2) rfl rfl (by decide))
      · exact cl_no X22.l B29 (nd_ne ND (i := 9) (j := 0) rfl rfl (by decide)) (nd_ne ND (i := 9) (j := 2) rfl rfl (by decide))
      · exact cl_no X22.l B30 (nd_ne ND (i := 10) (j := 0) rfl rfl (by decide)) (nd_ne ND (i := 10) (j := 2) rfl rfl (by decide)))
  have KT23 : PySem.W.kitAny K (.ref C23) ([C26, C27, C28, C21, C29, C30].map Value.ref) = some false := kit_any (fun c hc => by
      simp only [List.map_cons, List.map_nil, List.mem_cons, List.not_mem_nil, or_false] at hc
      rcases hc with rfl | rfl | rfl | rfl | rfl | rfl
      · exact cl_no X23.l B26 (nd_ne ND (i := 6) (j := 0) rfl rfl (by decide)) (nd_ne ND (i := 6) (j := 3) rfl rfl (by decide))
      · exact cl_no X23.l B27 (nd_ne ND (i := 7) (j := 0) rfl rfl (by decide)) (nd_ne ND (i := 7) (j := 3) rfl rfl (by decide))
      · exact cl_no X23.l B28 (nd_ne ND (i := 8) (j := 0) rfl rfl (by decide)) (nd_ne ND (i := 8) (j := 3) rfl rfl (by decide))
      · exact cl_no X23.l B21 (nd_ne ND (i := 1) (j := 0) rfl rfl (by decide)) (nd_ne ND (i := 1) (j := 3) rfl rfl (by decide))
      · exact cl_no X23.l B29 (nd_ne ND (i := 9) (j := 0) rfl rfl (by decide)) (nd_ne ND (i := 9) (j := 3) rfl rfl (by decide))
      · exact cl_no X23.l B30 (nd_ne ND (i := 10) (j := 0) rfl rfl (by decide)) (nd_ne ND (i := 10) (j := 3) rfl rfl (by decide)))
  have KT24 : PySem.W.kitAny K (.ref C24) ([C26, C27, C28, C21, C29, C30].map Value.ref) = some false := kit_any (fun c hc => by
      simp only [List.map_cons, List.map_nil, List.mem_cons, List.not_mem_nil, or_false] at hc
      rcases hc with rfl | rfl | rfl | rfl | rfl | rfl
      · exact cl_no X24.l B26 (nd_ne ND (i := 6) (j := 0) rfl rfl (by decide)) (nd_ne ND (i := 6) (j := 4) rfl rfl (by decide))
      · exact cl_no X24.l B27 (nd_ne ND (i := 7) (j := 0) rfl rfl (by decide)) (nd_ne ND (i := 7) (j := 4) rfl rfl (by decide))
      · exact cl_no X24.l B28 (nd_ne ND (i := 8) (j := 0) rfl rfl (by decide)) (nd_ne ND (i := 8) (j := 4) rfl rfl (by decide))
      · exact cl_no X24.l B21 (nd_ne ND (i := 1) (j := 0) rfl rfl (by decide)) (nd_ne ND (i := 1) (j := 4) rfl rfl (by decide))
      · exact cl_no X24.l B29 (nd_ne ND (i := 9) (j := 0) rfl rfl (by decide)) (nd_ne ND (i := 9) (j := 4) rfl rfl (by decide))
      · exact cl_no X24.l B30 (nd_ne ND (i := 10) (j := 0) rfl rfl (by decide)) (nd_ne ND (i := 10) (j := 4) rfl rfl (by decide)))
  have KT25 : PySem.W.kitAny K (.ref C25) ([C26, C27, C28, C21, C29, C30].map Value.ref) = some false := kit_any (fun c hc => by
      simp only [List.map_cons, List.map_nil, List.mem_cons, List.not_mem_nil, or_false] at hc
      rcases hc with rfl | rfl | rfl | rfl | rfl | rfl
      · exact cl_no X25.l B26 (nd_ne ND (i := 6) (j := 0) rfl rfl (by decide)) (nd_ne ND (i := 6) (j := 5) rfl rfl (by decide))
      · exact cl_no X25.l B27 (nd_ne ND (i := 7) (j := 0) rfl rfl (by decide)) (nd_ne ND (i := 7) (j := 5) rfl rfl (by decide))
      · exact cl_no X25.l B28 (nd_ne ND (i := 8) (j := 0) rfl rfl (by decide)) (nd_ne ND (i := 8) (j := 5) rfl rfl (by decide))
      · exact cl_no X25.l B21 (nd_ne ND (i := 1) (j := 0) rfl rfl (by decide)) (nd_ne ND (i := 1) (j := 5) rfl rfl (by decide))
      · exact cl_no X25.l B29 (nd_ne ND (i := 9) (j := 0) rfl rfl (by decide)) (nd_ne ND (i := 9) (j := 5) rfl rfl (by decide))
      · exact cl_no X25.l B30 (nd_ne ND (i := 10) (j := 0) rfl rfl (by decide)) (nd_ne ND (i := 10) (j := 5) rfl rfl (by decide)))
  have XF : XFam K (fun i => [C0, 0, 0, 0, 0, 0, 0, C7, C8, 0, 0, 0, 0, 0, 0, 0, 0, 0, 0, 0, C20, C21, C22, C23, C24, C25, C26, C27, C28, C29, C30].getD i 0) := ⟨all4x (cl_cls X22.l X22.e0 X22.e1 X22.e2 X22.e3 cg ctk) (cl_cls X23.l X23.e0 X23.e1 X23.e2 X23.e3 cg ctk) (cl_cls X24.l X24.e0 X24.e1 X24.e2 X24.e3 cg ctk) (cl_cls X25.l X25.e0 X25.e1 X25.e2 X25.e3 cg ctk), all4x (cl_sub X22.l) (cl_sub X23.l) (cl_sub X24.l) (cl_sub X25.l), all4x (X22.e4) (X23.e4) (X24.e4) (X25.e4), fun i j a b c d => KX i a b j c d, all4x (cl_ve X22.l) (cl_ve X23.l) (cl_ve X24.l) (cl_ve X25.l), all4x (KT22) (KT23) (KT24) (KT25)⟩
  have EX : ∀ {C : Addr}, ClAt K C (.ref C20 :: veMro) → ExC K C := fun {C} l => by
    obtain ⟨_, _, _, _, _, _, _, _, _, _, _, _, _, _, l⟩ := l
    exact exC_sub B20 NH SK NI l
  have IX22 : ∃ f fd, XIn K C22 "TooMany.__init__" s_i_TooMany psPITooMany f fd := by
    obtain ⟨⟨fd, F⟩, i1, i2⟩ := jx22
    exact ⟨gx22, fd, F, F.binds (ba2 fun _ _ _ _ _ _ _ _ => rfl), X22.e5, i1, X22.kp, by decide⟩
  have IX23 : ∃ f fd, XIn K C23 "Double.__init__" s_i_Double psPIDouble f fd := by
    obtain ⟨⟨fd, F⟩, i1, i2⟩ := jx23
    exact ⟨gx23, fd, F, F.binds (ba2 fun _ _ _ _ _ _ _ _ => rfl), X23.e5, i1, X23.kp, by decide⟩
  have IX24 : ∃ f fd, XIn K C24 "Orphan.__init__" s_i_Orphan psPIOrphan f fd := by
    obtain ⟨⟨fd, F⟩, i1, i2⟩ := jx24
    exact ⟨gx24, fd, F, F.binds (ba2 fun _ _ _ _ _ _ _ _ => rfl), X24.e5, i1, X24.kp, by decide⟩
  have IX25 : ∃ f fd, XIn K C25 "Clash.__init__" s_i_Clash psPIClash f fd := by
    obtain ⟨⟨fd, F⟩, i1, i2⟩ := jx25
    exact ⟨gx25, fd, F, F.binds (ba2 fun _ _ _ _ _ _ _ _ => rfl), X25.e5, i1, X25.kp, by decide⟩
  have TT : Tx K mg (fun i => [C0, 0, 0, 0, 0, 0, 0, C7, C8, 0, 0, 0, 0, 0, 0, 0, 0, 0, 0, 0, C20, C21, C22, C23, C24, C25, C26, C27, C28, C29, C30].getD i 0) := ⟨PySem.W.mg_none_of X G z0, PySem.W.mg_none_of X G z1, PySem.W.mg_none_of X G z2, PySem.W.mg_none_of X G z3, PySem.W.mg_none_of X G z4, PySem.W.mg_none_of X G z5, PySem.W.mg_none_of X G z6, PySem.W.mg_none_of X G z7, PySem.W.mg_none_of X G z8, PySem.W.mg_none_of X G z9, PySem.W.mg_none_of X G z10, PySem.W.mg_none_of X G z11, PySem.W.mg_none_of X G z12, PySem.W.mg_none_of X G z13, PySem.W.mg_none_of X G z14, PySem.W.mg_none_of X G z15, PySem.W.mg_none_of X G z16, ⟨_, PySem.W.mg_of X G gc0⟩, fat X G (ba1 fun _ _ _ _ _ _ _ => rfl) h0, fat X G (ba2 fun _ _ _ _ _ _ _ _ => rfl) h1, fat X G (ba2 fun _ _ _ _ _ _ _ _ => rfl) h2, fat X G (ba1 fun _ _ _ _ _ _ _ => rfl) h3, fat X G (ba2 fun _ _ _ _ _ _ _ _ => rfl) h4, fat X G (ba3 fun _ _ _ _ _ _ _ _ _ => rfl) h5, fat X G (ba1 fun _ _ _ _ _ _ _ => rfl) h6, fat X G (ba3 fun _ _ _ _ _ _ _ _ _ => rfl) h7, fat X G (ba3 fun _ _ _ _ _ _ _ _ _ => rfl) h8, fat X G (ba1 fun _ _ _ _ _ _ _ => rfl) h9, fat X G (ba1 fun _ _ _ _ _ _ _ => rfl) h10, fat X G (ba1 fun _ _ _ _ _ _ _ => rfl) h11, mat0 (ba2 fun _ _ _ _ _ _ _ _ => rfl) j0 fun i k => ⟨D8.mq, u0x8, i, D8.kc⟩, mat0 (ba1 fun _ _ _ _ _ _ _ => rfl) j1 fun i k => ⟨u1x8, i, k⟩, mat0 (ba3 fun _ _ _ _ _ _ _ _ _ => rfl) j2 fun i k => ⟨D7.mq, u2x7, i, D7.kc⟩, mat0 (ba1 fun _ _ _ _ _ _ _ => rfl) j3 fun i k => ⟨u3x7, i, k⟩, mat0 (ba3 fun _ _ _ _ _ _ _ _ _ => rfl) j4 fun i k => ⟨D0.mq, u4x0, i, D0.kc⟩, mat0 (ba1 fun _ _ _ _ _ _ _ => rfl) j5 fun i k => ⟨u5x0, i, k⟩, PySem.W.mg_of X G D0.A, PySem.W.mg_of X G D7.A, PySem.W.mg_of X G D8.A, FM, ⟨R7, nf7x0, nf7x1, kit_own D7.mm D7.mm D7.mo D7.ty⟩, ⟨R8, nf8x0⟩, PySem.W.mg_of X G A20, PySem.W.mg_of X G A21, PySem.W.mg_of X G X22.A, PySem.W.mg_of X G X23.A, PySem.W.mg_of X G X24.A, PySem.W.mg_of X G X25.A, PySem.W.mg_of X G A26, PySem.W.mg_of X G A27, PySem.W.mg_of X G A28, PySem.W.mg_of X G A29, PySem.W.mg_of X G A30, exC_he B20, XF, EX X22.l, EX X23.l, EX X24.l, EX X25.l, IX22, IX23, IX24, IX25, y1, y2, y3⟩
  obtain ⟨f, fd, a, F⟩ := h12
  cases hfa.symm.trans (PySem.W.mg_of X G a)
  obtain ⟨oc, od, kV, doc, pm, an, cdv, ct, osl, rfl, lk, hcd⟩ := id F.ex
  exact ⟨_, fun s v => .of_eq rfl, fun base _ _ => ok_law TT F⟩

theorem walk {l : PySem.W.OpenLaw} {q : Program} {loose : List Str} {XP : (Str → Option Value) → Heap → Prop} {YP : World → Heap → Prop} {d : DefRec} {K : Params → PySem.W.Frag} (hn : l.most = some 63) (hdf : d.params.defaults = [])
    (hY : ∀ (w : World) (h : Heap), YP w h → (K w.params).In h)
    (F : ∀ (w : World) (mg : Str → Option Value) (fa : Addr) (h : Heap), (K w.params).In h → h.Ns mainGlobals mg → mg d.name = some (.ref fa) →
      ∃ fd : FuncData, (∀ (s : Shared) (u : Value), BindsTo s fd ⟨[u], []⟩ [("_law_script", u)]) ∧ ∀ base : Heap, (K w.params).In base → base.Ns mainGlobals mg → FnOk l.prog w (K w.params) mg base CX0 10 fa fd ["_law_script"] (spLaw (K w.params))) :
    PySem.W.WalkO q loose XP YP l.row.toRowW d [] (fun f vs => PySem.call f vs) :=
  L2.walk_of (n := 63) (k := 10) (x := "_law_script") (CX := fun _ => CX0) (sp := fun w => spLaw (K w.params)) hn (by decide) hdf ⟨rfl, by decide, by decide⟩ hY F (fun _ _ a ns hl _ hS => ⟨a, ns, rfl, hS, hl, fun _ => rfl⟩) fun _ _ _ _ _ z => z
open PySem in
open PySem in
noncomputable abbrev kf (s : Stmt) (n q m : Str) (t c : Nat) : Obj := { cls := .type "function", data := .func { name := n, qualname := q, params := L2.defArgs s, body := .stmts (L2.defBody s), scope := L2.defScope s, globals := 3, closure := [], defaults := .none, kwdefaults := .none, pyModule := .str m t, code := .ref c } }
open PySem in
noncomputable abbrev kc (n q : Str) (a b c : Nat) (l k : Int) (f r : Nat) (t : Bool) (g : Int) (u : Nat) (x y z : Value) (v : Nat) (m : Int) (e : Nat) : Obj := { cls := .type "code", data := .fields #[.str n a, .str q b, .str "/claim/cut.py" c, .int l 0, .int k 0, .int 0 0, .int 0 0, .int f 0, .ref r, .bool t, .int g 0, .ref u, x, y, z, .ref v, .int m 0, .int l 0, .str "/claim/cut.py" e] }
noncomputable abbrev k20 : PySem.Obj := kc "_wall" "_wall" 187 188 189 1 1 3 15 true 181 16 .none (.ref 17) (.ref 18) 19 191 192
noncomputable abbrev k21 : PySem.Obj := kf (Mine.top 0) "_wall" "_wall" "__main__" 164 20
noncomputable abbrev k30 (P : PySem.Params) : PySem.Obj := { cls := .type "dict", data := .dict #[⟨PyData.keyHash P "__module__", .str "__module__" 203, .str "drawhouse.errors" 194⟩, ⟨PyData.keyHash P "__firstlineno__", .str "__firstlineno__" 207, .int 5 206⟩, ⟨PyData.keyHash P "__static_attributes__", .str "__static_attributes__" 208, .ref 29⟩, ⟨PyData.keyHash P "__weakref__", .str "__weakref__" 210, .ref 32⟩, ⟨PyData.keyHash P "__doc__", .str "__doc__" 211, .none⟩] 3 }
noncomputable abbrev k31 : PySem.Obj := { cls := .type "type", data := .cls { name := "HouseError", bases := [.type "ValueError"], mro := [.ref 31, .type "ValueError", .type "Exception", .type "BaseException", .type "object"], ns := 30, qualname := "HouseError", subclasses := [.ref 44, .ref 63, .ref 82, .ref 101, .ref 120, .ref 139, .ref 158, .ref 177, .ref 196, .ref 215] }, slots := #[some (.ref 22), none, some (.str "HouseError" 196), some (.str "HouseError" 204), some (.builtin "ValueError.__new__"), some (.bool true)] }
noncomputable abbrev k32 : PySem.Obj := { cls := .type "getset_descriptor", data := .fields #[.str "__weakref__" 209, .ref 31, .builtin "ExceptionGroup.__weakref__", .none] }
noncomputable abbrev k43 (P : PySem.Params) : PySem.Obj := { cls := .type "dict", data := .dict #[⟨PyData.keyHash P "__module__", .str "__module__" 221, .str "drawhouse.errors" 194⟩, ⟨PyData.keyHash P "__firstlineno__", .str "__firstlineno__" 225, .int 7 224⟩, ⟨PyData.keyHash P "__static_attributes__", .str "__static_attributes__" 226, .ref 42⟩, ⟨PyData.keyHash P "__doc__", .str "__doc__" 227, .none⟩] 2 }
noncomputable abbrev k44 : PySem.Obj := { cls := .type "type", data := .cls { name := "NoExpr", bases := [.ref 31], mro := [.ref 44, .ref 31, .type "ValueError", .type "Exception", .type "BaseException", .type "object"], ns := 43, qualname := "NoExpr" }, slots := #[some (.ref 35), none, some (.str "NoExpr" 214), some (.str "NoExpr" 222), some (.builtin "ValueError.__new__"), some (.bool true)] }
noncomputable abbrev k59 : PySem.Obj := kc "__init__" "NoText.__init__" 242 243 244 11 2 3 54 true 181 55 .none (.ref 56) (.ref 57) 58 247 248
noncomputable abbrev k60 : PySem.Obj := kf ((Mine.clsBody (Mine.top 4)).getD 0 (.Pass ⟨0, 0, 0, 0⟩)) "__init__" "NoText.__init__" "drawhouse.errors" 194 59
noncomputable abbrev k62 (P : PySem.Params) : PySem.Obj := { cls := .type "dict", data := .dict #[⟨PyData.keyHash P "__module__", .str "__module__" 237, .str "drawhouse.errors" 194⟩, ⟨PyData.keyHash P "__firstlineno__", .str "__firstlineno__" 241, .int 9 240⟩, ⟨PyData.keyHash P "__init__", .str "__init__" 249, .ref 60⟩, ⟨PyData.keyHash P "__static_attributes__", .str "__static_attributes__" 251, .ref 61⟩, ⟨PyData.keyHash P "__doc__", .str "__doc__" 252, .none⟩] 2 }
noncomputable abbrev k63 : PySem.Obj := { cls := .type "type", data := .cls { name := "NoText", bases := [.ref 31], mro := [.ref 63, .ref 31, .type "ValueError", .type "Exception", .type "BaseException", .type "object"], ns := 62, qualname := "NoText" }, slots := #[some (.ref 47), none, some (.str "NoText" 230), some (.str "NoText" 238), some (.builtin "ValueError.__new__"), some (.bool true)] }
noncomputable abbrev k78 : PySem.Obj := kc "__init__" "TooMany.__init__" 267 268 269 16 2 3 73 true 181 74 .none (.ref 75) (.ref 76) 77 272 273
noncomputable abbrev k79 : PySem.Obj := kf ((Mine.clsBody (Mine.top 5)).getD 0 (.Pass ⟨0, 0, 0, 0⟩)) "__init__" "TooMany.__init__" "drawhouse.errors" 194 78
noncomputable abbrev k81 (P : PySem.Params) : PySem.Obj := { cls := .type "dict", data := .dict #[⟨PyData.keyHash P "__module__", .str "__module__" 262, .str "drawhouse.errors" 194⟩, ⟨PyData.keyHash P "__firstlineno__", .str "__firstlineno__" 266, .int 14 265⟩, ⟨PyData.keyHash P "__init__", .str "__init__" 274, .ref 79⟩, ⟨PyData.keyHash P "__static_attributes__", .str "__static_attributes__" 276, .ref 80⟩, ⟨PyData.keyHash P "__doc__", .str "__doc__" 277, .none⟩] 2 }
noncomputable abbrev k82 : PySem.Obj := { cls := .type "type", data := .cls { name := "TooMany", bases := [.ref 31], mro := [.ref 82, .ref 31, .type "ValueError", .type "Exception", .type "BaseException", .type "object"], ns := 81, qualname := "TooMany" }, slots := #[some (.ref 66), none, some (.str "TooMany" 255), some (.str "TooMany" 263), some (.builtin "ValueError.__new__"), some (.bool true)] }
noncomputable abbrev k97 : PySem.Obj := kc "__init__" "Twice.__init__" 292 293 294 21 2 3 92 true 181 93 .none (.ref 94) (.ref 95) 96 297 298
noncomputable abbrev k98 : PySem.Obj := kf ((Mine.clsBody (Mine.top 6)).getD 0 (.Pass ⟨0, 0, 0, 0⟩)) "__init__" "Twice.__init__" "drawhouse.errors" 194 97
noncomputable abbrev k100 (P : PySem.Params) : PySem.Obj := { cls := .type "dict", data := .dict #[⟨PyData.keyHash P "__module__", .str "__module__" 287, .str "drawhouse.errors" 194⟩, ⟨PyData.keyHash P "__firstlineno__", .str "__firstlineno__" 291, .int 19 290⟩, ⟨PyData.keyHash P "__init__", .str "__init__" 299, .ref 98⟩, ⟨PyData.keyHash P "__static_attributes__", .str "__static_attributes__" 301, .ref 99⟩, ⟨PyData.keyHash P "__doc__", .str "__doc__" 302, .none⟩] 2 }
noncomputable abbrev k101 : PySem.Obj := { cls := .type "type", data := .cls { name := "Twice", bases := [.ref 31], mro := [.ref 101, .ref 31, .type "ValueError", .type "Exception", .type "BaseException", .type "object"], ns := 100, qualname := "Twice" }, slots := #[some (.ref 85), none, some (.str "Twice" 280), some (.str "Twice" 288), some (.builtin "ValueError.__new__"), some (.bool true)] }
noncomputable abbrev k116 : PySem.Obj := kc "__init__" "Double.__init__" 317 318 319 26 2 3 111 true 181 112 .none (.ref 113) (.ref 114) 115 322 323
noncomputable abbrev k117 : PySem.Obj := kf ((Mine.clsBody (Mine.top 7)).getD 0 (.Pass ⟨0, 0, 0, 0⟩)) "__init__" "Double.__init__" "drawhouse.errors" 194 116
noncomputable abbrev k119 (P : PySem.Params) : PySem.Obj := { cls := .type "dict", data := .dict #[⟨PyData.keyHash P "__module__", .str "__module__" 312, .str "drawhouse.errors" 194⟩, ⟨PyData.keyHash P "__firstlineno__", .str "__firstlineno__" 316, .int 24 315⟩, ⟨PyData.keyHash P "__init__", .str "__init__" 324, .ref 117⟩, ⟨PyData.keyHash P "__static_attributes__", .str "__static_attributes__" 326, .ref 118⟩, ⟨PyData.keyHash P "__doc__", .str "__doc__" 327, .none⟩] 2 }
noncomputable abbrev k120 : PySem.Obj := { cls := .type "type", data := .cls { name := "Double", bases := [.ref 31], mro := [.ref 120, .ref 31, .type "ValueError", .type "Exception", .type "BaseException", .type "object"], ns := 119, qualname := "Double" }, slots := #[some (.ref 104), none, some (.str "Double" 305), some (.str "Double" 313), some (.builtin "ValueError.__new__"), some (.bool true)] }
noncomputable abbrev k135 : PySem.Obj := kc "__init__" "Orphan.__init__" 342 343 344 31 2 3 130 true 181 131 .none (.ref 132) (.ref 133) 134 347 348
noncomputable abbrev k136 : PySem.Obj := kf ((Mine.clsBody (Mine.top 8)).getD 0 (.Pass ⟨0, 0, 0, 0⟩)) "__init__" "Orphan.__init__" "drawhouse.errors" 194 135
noncomputable abbrev k138 (P : PySem.Params) : PySem.Obj := { cls := .type "dict", data := .dict #[⟨PyData.keyHash P "__module__", .str "__module__" 337, .str "drawhouse.errors" 194⟩, ⟨PyData.keyHash P "__firstlineno__", .str "__firstlineno__" 341, .int 29 340⟩, ⟨PyData.keyHash P "__init__", .str "__init__" 349, .ref 136⟩, ⟨PyData.keyHash P "__static_attributes__", .str "__static_attributes__" 351, .ref 137⟩, ⟨PyData.keyHash P "__doc__", .str "__doc__" 352, .none⟩] 2 }
noncomputable abbrev k139 : PySem.Obj := { cls := .type "type", data := .cls { name := "Orphan", bases := [.ref 31], mro := [.ref 139, .ref 31, .type "ValueError", .type "Exception", .type "BaseException", .type "object"], ns := 138, qualname := "Orphan" }, slots := #[some (.ref 123), none, some (.str "Orphan" 330), some (.str "Orphan" 338), some (.builtin "ValueError.__new__"), some (.bool true)] }
noncomputable abbrev k154 : PySem.Obj := kc "__init__" "Clash.__init__" 367 368 369 36 2 3 149 true 181 150 .none (.ref 151) (.ref 152) 153 372 373
noncomputable abbrev k155 : PySem.Obj := kf ((Mine.clsBody (Mine.top 9)).getD 0 (.Pass ⟨0, 0, 0, 0⟩)) "__init__" "Clash.__init__" "drawhouse.errors" 194 154
noncomputable abbrev k157 (P : PySem.Params) : PySem.Obj := { cls := .type "dict", data := .dict #[⟨PyData.keyHash P "__module__", .str "__module__" 362, .str "drawhouse.errors" 194⟩, ⟨PyData.keyHash P "__firstlineno__", .str "__firstlineno__" 366, .int 34 365⟩, ⟨PyData.keyHash P "__init__", .str "__init__" 374, .ref 155⟩, ⟨PyData.keyHash P "__static_attributes__", .str "__static_attributes__" 376, .ref 156⟩, ⟨PyData.keyHash P "__doc__", .str "__doc__" 377, .none⟩] 2 }
noncomputable abbrev k158 : PySem.Obj := { cls := .type "type", data := .cls { name := "Clash", bases := [.ref 31], mro := [.ref 158, .ref 31, .type "ValueError", .type "Exception", .type "BaseException", .type "object"], ns := 157, qualname := "Clash" }, slots := #[some (.ref 142), none, some (.str "Clash" 355), some (.str "Clash" 363), some (.builtin "ValueError.__new__"), some (.bool true)] }
noncomputable abbrev k173 : PySem.Obj := kc "__init__" "NoPart.__init__" 392 393 394 41 2 3 168 true 181 169 .none (.ref 170) (.ref 171) 172 397 398
noncomputable abbrev k174 : PySem.Obj := kf ((Mine.clsBody (Mine.top 10)).getD 0 (.Pass ⟨0, 0, 0, 0⟩)) "__init__" "NoPart.__init__" "drawhouse.errors" 194 173
noncomputable abbrev k176 (P : PySem.Params) : PySem.Obj := { cls := .type "dict", data := .dict #[⟨PyData.keyHash P "__module__", .str "__module__" 387, .str "drawhouse.errors" 194⟩, ⟨PyData.keyHash P "__firstlineno__", .str "__firstlineno__" 391, .int 39 390⟩, ⟨PyData.keyHash P "__init__", .str "__init__" 399, .ref 174⟩, ⟨PyData.keyHash P "__static_attributes__", .str "__static_attributes__" 401, .ref 175⟩, ⟨PyData.keyHash P "__doc__", .str "__doc__" 402, .none⟩] 2 }
noncomputable abbrev k177 : PySem.Obj := { cls := .type "type", data := .cls { name := "NoPart", bases := [.ref 31], mro := [.ref 177, .ref 31, .type "ValueError", .type "Exception", .type "BaseException", .type "object"], ns := 176, qualname := "NoPart" }, slots := #[some (.ref 161), none, some (.str "NoPart" 380), some (.str "NoPart" 388), some (.builtin "ValueError.__new__"), some (.bool true)] }
noncomputable abbrev k192 : PySem.Obj := kc "__init__" "NoDrop.__init__" 417 418 419 46 2 3 187 true 181 188 .none (.ref 189) (.ref 190) 191 422 423
noncomputable abbrev k193 : PySem.Obj := kf ((Mine.clsBody (Mine.top 11)).getD 0 (.Pass ⟨0, 0, 0, 0⟩)) "__init__" "NoDrop.__init__" "drawhouse.errors" 194 192
noncomputable abbrev k195 (P : PySem.Params) : PySem.Obj := { cls := .type "dict", data := .dict #[⟨PyData.keyHash P "__module__", .str "__module__" 412, .str "drawhouse.errors" 194⟩, ⟨PyData.keyHash P "__firstlineno__", .str "__firstlineno__" 416, .int 44 415⟩, ⟨PyData.keyHash P "__init__", .str "__init__" 424, .ref 193⟩, ⟨PyData.keyHash P "__static_attributes__", .str "__static_attributes__" 426, .ref 194⟩, ⟨PyData.keyHash P "__doc__", .str "__doc__" 427, .none⟩] 2 }
noncomputable abbrev k196 : PySem.Obj := { cls := .type "type", data := .cls { name := "NoDrop", bases := [.ref 31], mro := [.ref 196, .ref 31, .type "ValueError", .type "Exception", .type "BaseException", .type "object"], ns := 195, qualname := "NoDrop" }, slots := #[some (.ref 180), none, some (.str "NoDrop" 405), some (.str "NoDrop" 413), some (.builtin "ValueError.__new__"), some (.bool true)] }
noncomputable abbrev k211 : PySem.Obj := kc "__init__" "NoName.__init__" 442 443 444 51 2 3 206 true 181 207 .none (.ref 208) (.ref 209) 210 447 448
noncomputable abbrev k212 : PySem.Obj := kf ((Mine.clsBody (Mine.top 12)).getD 0 (.Pass ⟨0, 0, 0, 0⟩)) "__init__" "NoName.__init__" "drawhouse.errors" 194 211
noncomputable abbrev k214 (P : PySem.Params) : PySem.Obj := { cls := .type "dict", data := .dict #[⟨PyData.keyHash P "__module__", .str "__module__" 437, .str "drawhouse.errors" 194⟩, ⟨PyData.keyHash P "__firstlineno__", .str "__firstlineno__" 441, .int 49 440⟩, ⟨PyData.keyHash P "__init__", .str "__init__" 449, .ref 212⟩, ⟨PyData.keyHash P "__static_attributes__", .str "__static_attributes__" 451, .ref 213⟩, ⟨PyData.keyHash P "__doc__", .str "__doc__" 452, .none⟩] 2 }
noncomputable abbrev k215 : PySem.Obj := { cls := .type "type", data := .cls { name := "NoName", bases := [.ref 31], mro := [.ref 215, .ref 31, .type "ValueError", .type "Exception", .type "BaseException", .type "object"], ns := 214, qualname := "NoName" }, slots := #[some (.ref 199), none, some (.str "NoName" 430), some (.str "NoName" 438), some (.builtin "ValueError.__new__"), some (.bool true)] }
noncomputable abbrev k223 : PySem.Obj := kc "parent_of" "parent_of" 457 458 459 55 1 3 218 true 181 219 .none (.ref 220) (.ref 221) 222 461 462
noncomputable abbrev k224 : PySem.Obj := kf (Mine.top 14) "parent_of" "parent_of" "drawhouse.words" 455 223
noncomputable abbrev k230 : PySem.Obj := kc "is_orphan" "is_orphan" 468 469 470 59 2 3 225 true 181 226 .none (.ref 227) (.ref 228) 229 474 475
noncomputable abbrev k231 : PySem.Obj := kf (Mine.top 17) "is_orphan" "is_orphan" "drawhouse.house" 464 230
noncomputable abbrev k235 : PySem.Obj := kc "is_clash" "is_clash" 477 478 479 62 2 3 232 true 181 233 .none .none .none 234 480 481
noncomputable abbrev k236 : PySem.Obj := kf (Mine.top 18) "is_clash" "is_clash" "drawhouse.house" 464 235
noncomputable abbrev k240 : PySem.Obj := kc "check_parts" "check_parts" 483 484 485 64 1 3 237 true 181 238 .none .none .none 239 486 487
noncomputable abbrev k241 : PySem.Obj := kf (Mine.top 19) "check_parts" "check_parts" "drawhouse.house" 464 240
noncomputable abbrev k254 : PySem.Obj := kc "__init__" "House.__init__" 501 502 503 77 2 3 249 true 181 250 .none (.ref 251) (.ref 252) 253 506 507
noncomputable abbrev k255 : PySem.Obj := kf ((Mine.clsBody (Mine.top 20)).getD 0 (.Pass ⟨0, 0, 0, 0⟩)) "__init__" "House.__init__" "drawhouse.house" 464 254
noncomputable abbrev k259 : PySem.Obj := kc "addresses" "House.addresses" 509 510 511 81 1 3 256 true 181 257 .none .none .none 258 512 513
noncomputable abbrev k260 : PySem.Obj := kf ((Mine.clsBody (Mine.top 20)).getD 1 (.Pass ⟨0, 0, 0, 0⟩)) "addresses" "House.addresses" "drawhouse.house" 464 259
noncomputable abbrev k266 : PySem.Obj := kc "has" "House.has" 515 516 517 84 2 3 261 true 181 262 .none (.ref 263) (.ref 264) 265 520 521
noncomputable abbrev k267 : PySem.Obj := kf ((Mine.clsBody (Mine.top 20)).getD 2 (.Pass ⟨0, 0, 0, 0⟩)) "has" "House.has" "drawhouse.house" 464 266
noncomputable abbrev k273 : PySem.Obj := kc "part" "House.part" 523 524 525 87 2 3 268 true 181 269 .none (.ref 270) (.ref 271) 272 529 530
noncomputable abbrev k274 : PySem.Obj := kf ((Mine.clsBody (Mine.top 20)).getD 3 (.Pass ⟨0, 0, 0, 0⟩)) "part" "House.part" "drawhouse.house" 464 273
noncomputable abbrev k280 : PySem.Obj := kc "with_part" "House.with_part" 532 533 534 93 2 3 275 true 181 276 .none (.ref 277) (.ref 278) 279 537 538
noncomputable abbrev k281 : PySem.Obj := kf ((Mine.clsBody (Mine.top 20)).getD 4 (.Pass ⟨0, 0, 0, 0⟩)) "with_part" "House.with_part" "drawhouse.house" 464 280
noncomputable abbrev k287 : PySem.Obj := kc "without" "House.without" 540 541 542 96 2 3 282 true 181 283 .none (.ref 284) (.ref 285) 286 545 546
noncomputable abbrev k288 : PySem.Obj := kf ((Mine.clsBody (Mine.top 20)).getD 5 (.Pass ⟨0, 0, 0, 0⟩)) "without" "House.without" "drawhouse.house" 464 287
noncomputable abbrev k290 (P : PySem.Params) : PySem.Obj := { cls := .type "dict", data := .dict #[⟨PyData.keyHash P "__module__", .str "__module__" 496, .str "drawhouse.house" 464⟩, ⟨PyData.keyHash P "__firstlineno__", .str "__firstlineno__" 500, .int 75 499⟩, ⟨PyData.keyHash P "__init__", .str "__init__" 508, .ref 255⟩, ⟨PyData.keyHash P "addresses", .str "addresses" 514, .ref 260⟩, ⟨PyData.keyHash P "has", .str "has" 522, .ref 267⟩, ⟨PyData.keyHash P "part", .str "part" 531, .ref 274⟩, ⟨PyData.keyHash P "with_part", .str "with_part" 539, .ref 281⟩, ⟨PyData.keyHash P "without", .str "without" 547, .ref 288⟩, ⟨PyData.keyHash P "__static_attributes__", .str "__static_attributes__" 549, .ref 289⟩, ⟨PyData.keyHash P "__dict__", .str "__dict__" 551, .ref 292⟩, ⟨PyData.keyHash P "__weakref__", .str "__weakref__" 553, .ref 293⟩, ⟨PyData.keyHash P "__doc__", .str "__doc__" 554, .none⟩] 4 }
noncomputable abbrev k291 : PySem.Obj := { cls := .type "type", data := .cls { name := "House", bases := [.type "object"], mro := [.ref 291, .type "object"], ns := 290, qualname := "House" }, slots := #[none, none, some (.str "House" 489), some (.str "House" 497), some (.builtin "object.__new__"), some (.bool true)] }
noncomputable abbrev k292 : PySem.Obj := { cls := .type "getset_descriptor", data := .fields #[.str "__dict__" 550, .ref 291, .builtin "function.__dict__", .builtin "function.__dict__#set"] }
noncomputable abbrev k293 : PySem.Obj := { cls := .type "getset_descriptor", data := .fields #[.str "__weakref__" 552, .ref 291, .builtin "ExceptionGroup.__weakref__", .none] }
noncomputable abbrev k308 : PySem.Obj := kc "__init__" "Part.__init__" 571 572 573 101 3 3 303 true 181 304 .none (.ref 305) (.ref 306) 307 577 578
noncomputable abbrev k309 : PySem.Obj := kf ((Mine.clsBody (Mine.top 22)).getD 0 (.Pass ⟨0, 0, 0, 0⟩)) "__init__" "Part.__init__" "drawhouse.parts" 557 308
noncomputable abbrev k313 : PySem.Obj := kc "bound" "Part.bound" 580 581 582 105 1 3 310 true 181 311 .none .none .none 312 583 584
noncomputable abbrev k314 : PySem.Obj := kf ((Mine.clsBody (Mine.top 22)).getD 1 (.Pass ⟨0, 0, 0, 0⟩)) "bound" "Part.bound" "drawhouse.parts" 557 313
noncomputable abbrev k320 : PySem.Obj := kc "place_of" "Part.place_of" 586 587 588 109 2 3 315 true 181 316 .none (.ref 317) (.ref 318) 319 591 592
noncomputable abbrev k321 : PySem.Obj := kf ((Mine.clsBody (Mine.top 22)).getD 2 (.Pass ⟨0, 0, 0, 0⟩)) "place_of" "Part.place_of" "drawhouse.parts" 557 320
noncomputable abbrev k327 : PySem.Obj := kc "text" "Part.text" 594 595 596 112 1 3 322 true 181 323 .none (.ref 324) (.ref 325) 326 598 599
noncomputable abbrev k328 : PySem.Obj := kf ((Mine.clsBody (Mine.top 22)).getD 3 (.Pass ⟨0, 0, 0, 0⟩)) "text" "Part.text" "drawhouse.parts" 557 327
noncomputable abbrev k330 (P : PySem.Params) : PySem.Obj := { cls := .type "dict", data := .dict #[⟨PyData.keyHash P "__module__", .str "__module__" 566, .str "drawhouse.parts" 557⟩, ⟨PyData.keyHash P "__firstlineno__", .str "__firstlineno__" 570, .int 99 569⟩, ⟨PyData.keyHash P "__init__", .str "__init__" 579, .ref 309⟩, ⟨PyData.keyHash P "bound", .str "bound" 585, .ref 314⟩, ⟨PyData.keyHash P "place_of", .str "place_of" 593, .ref 321⟩, ⟨PyData.keyHash P "text", .str "text" 600, .ref 328⟩, ⟨PyData.keyHash P "__static_attributes__", .str "__static_attributes__" 603, .ref 329⟩, ⟨PyData.keyHash P "__dict__", .str "__dict__" 605, .ref 332⟩, ⟨PyData.keyHash P "__weakref__", .str "__weakref__" 607, .ref 333⟩, ⟨PyData.keyHash P "__doc__", .str "__doc__" 608, .none⟩] 4 }
noncomputable abbrev k331 : PySem.Obj := { cls := .type "type", data := .cls { name := "Part", bases := [.type "object"], mro := [.ref 331, .type "object"], ns := 330, qualname := "Part" }, slots := #[none, none, some (.str "Part" 559), some (.str "Part" 567), some (.builtin "object.__new__"), some (.bool true)] }
noncomputable abbrev k332 : PySem.Obj := { cls := .type "getset_descriptor", data := .fields #[.str "__dict__" 604, .ref 331, .builtin "function.__dict__", .builtin "function.__dict__#set"] }
noncomputable abbrev k333 : PySem.Obj := { cls := .type "getset_descriptor", data := .fields #[.str "__weakref__" 606, .ref 331, .builtin "ExceptionGroup.__weakref__", .none] }
noncomputable abbrev k348 : PySem.Obj := kc "binds" "Row.binds" 625 626 627 117 1 3 343 true 181 344 .none (.ref 345) (.ref 346) 347 629 630
noncomputable abbrev k349 : PySem.Obj := kf ((Mine.clsBody (Mine.top 24)).getD 0 (.Pass ⟨0, 0, 0, 0⟩)) "binds" "Row.binds" "drawhouse.rows" 611 348
noncomputable abbrev k355 : PySem.Obj := kc "asked" "Row.asked" 632 633 634 120 1 3 350 true 181 351 .none (.ref 352) (.ref 353) 354 636 637
noncomputable abbrev k356 : PySem.Obj := kf ((Mine.clsBody (Mine.top 24)).getD 1 (.Pass ⟨0, 0, 0, 0⟩)) "asked" "Row.asked" "drawhouse.rows" 611 355
noncomputable abbrev k362 : PySem.Obj := kc "said" "Row.said" 639 640 641 123 1 3 357 true 181 358 .none (.ref 359) (.ref 360) 361 643 644
noncomputable abbrev k363 : PySem.Obj := kf ((Mine.clsBody (Mine.top 24)).getD 2 (.Pass ⟨0, 0, 0, 0⟩)) "said" "Row.said" "drawhouse.rows" 611 362
noncomputable abbrev k365 (P : PySem.Params) : PySem.Obj := { cls := .type "dict", data := .dict #[⟨PyData.keyHash P "__module__", .str "__module__" 620, .str "drawhouse.rows" 611⟩, ⟨PyData.keyHash P "__firstlineno__", .str "__firstlineno__" 624, .int 115 623⟩, ⟨PyData.keyHash P "binds", .str "binds" 631, .ref 349⟩, ⟨PyData.keyHash P "asked", .str "asked" 638, .ref 356⟩, ⟨PyData.keyHash P "said", .str "said" 645, .ref 363⟩, ⟨PyData.keyHash P "__static_attributes__", .str "__static_attributes__" 646, .ref 364⟩, ⟨PyData.keyHash P "__dict__", .str "__dict__" 648, .ref 367⟩, ⟨PyData.keyHash P "__weakref__", .str "__weakref__" 650, .ref 368⟩, ⟨PyData.keyHash P "__doc__", .str "__doc__" 651, .none⟩] 4 }
noncomputable abbrev k366 : PySem.Obj := { cls := .type "type", data := .cls { name := "Row", bases := [.type "object"], mro := [.ref 366, .type "object"], ns := 365, qualname := "Row", subclasses := [.ref 401] }, slots := #[none, none, some (.str "Row" 613), some (.str "Row" 621), some (.builtin "object.__new__"), some (.bool true)] }
noncomputable abbrev k367 : PySem.Obj := { cls := .type "getset_descriptor", data := .fields #[.str "__dict__" 647, .ref 366, .builtin "function.__dict__", .builtin "function.__dict__#set"] }
noncomputable abbrev k368 : PySem.Obj := { cls := .type "getset_descriptor", data := .fields #[.str "__weakref__" 649, .ref 366, .builtin "ExceptionGroup.__weakref__", .none] }
noncomputable abbrev k383 : PySem.Obj := kc "__init__" "Let.__init__" 666 667 668 127 3 3 378 true 181 379 .none (.ref 380) (.ref 381) 382 672 673
noncomputable abbrev k384 : PySem.Obj := kf ((Mine.clsBody (Mine.top 25)).getD 0 (.Pass ⟨0, 0, 0, 0⟩)) "__init__" "Let.__init__" "drawhouse.rows" 611 383
noncomputable abbrev k390 : PySem.Obj := kc "binds" "Let.binds" 675 676 677 131 1 3 385 true 181 386 .none (.ref 387) (.ref 388) 389 679 680
noncomputable abbrev k391 : PySem.Obj := kf ((Mine.clsBody (Mine.top 25)).getD 1 (.Pass ⟨0, 0, 0, 0⟩)) "binds" "Let.binds" "drawhouse.rows" 611 390
noncomputable abbrev k397 : PySem.Obj := kc "said" "Let.said" 682 683 684 134 1 3 392 true 181 393 .none (.ref 394) (.ref 395) 396 686 687
noncomputable abbrev k398 : PySem.Obj := kf ((Mine.clsBody (Mine.top 25)).getD 2 (.Pass ⟨0, 0, 0, 0⟩)) "said" "Let.said" "drawhouse.rows" 611 397
noncomputable abbrev k400 (P : PySem.Params) : PySem.Obj := { cls := .type "dict", data := .dict #[⟨PyData.keyHash P "__module__", .str "__module__" 661, .str "drawhouse.rows" 611⟩, ⟨PyData.keyHash P "__firstlineno__", .str "__firstlineno__" 665, .int 125 664⟩, ⟨PyData.keyHash P "__init__", .str "__init__" 674, .ref 384⟩, ⟨PyData.keyHash P "binds", .str "binds" 681, .ref 391⟩, ⟨PyData.keyHash P "said", .str "said" 688, .ref 398⟩, ⟨PyData.keyHash P "__static_attributes__", .str "__static_attributes__" 691, .ref 399⟩, ⟨PyData.keyHash P "__doc__", .str "__doc__" 692, .none⟩] 2 }
noncomputable abbrev k401 : PySem.Obj := { cls := .type "type", data := .cls { name := "Let", bases := [.ref 366], mro := [.ref 401, .ref 366, .type "object"], ns := 400, qualname := "Let" }, slots := #[some (.ref 371), none, some (.str "Let" 654), some (.str "Let" 662), some (.builtin "object.__new__"), some (.bool true)] }
noncomputable abbrev k409 : PySem.Obj := kc "_law_cell" "_law_cell" 697 698 699 137 2 3 404 true 181 405 .none (.ref 406) (.ref 407) 408 702 703
noncomputable abbrev k410 : PySem.Obj := kf (Mine.top 27) "_law_cell" "_law_cell" "law_drawhouse_k32_houses_refused" 695 409
noncomputable abbrev k416 : PySem.Obj := kc "_law_pick" "_law_pick" 705 706 707 141 3 3 411 true 181 412 .none (.ref 413) (.ref 414) 415 714 715
noncomputable abbrev k417 : PySem.Obj := kf (Mine.top 28) "_law_pick" "_law_pick" "law_drawhouse_k32_houses_refused" 695 416
noncomputable abbrev k421 : PySem.Obj := kc "_law_words" "_law_words" 717 718 719 150 1 3 418 true 181 419 .none .none .none 420 720 721
noncomputable abbrev k422 : PySem.Obj := kf (Mine.top 29) "_law_words" "_law_words" "law_drawhouse_k32_houses_refused" 695 421
noncomputable abbrev k426 : PySem.Obj := kc "_law_addresses" "_law_addresses" 723 724 725 163 3 3 423 true 181 424 .none .none .none 425 726 727
noncomputable abbrev k427 : PySem.Obj := kf (Mine.top 30) "_law_addresses" "_law_addresses" "law_drawhouse_k32_houses_refused" 695 426
noncomputable abbrev k431 : PySem.Obj := kc "_law_spoilt" "_law_spoilt" 729 730 731 176 3 3 428 true 181 429 .none .none .none 430 732 733
noncomputable abbrev k432 : PySem.Obj := kf (Mine.top 31) "_law_spoilt" "_law_spoilt" "law_drawhouse_k32_houses_refused" 695 431
noncomputable abbrev k436 : PySem.Obj := kc "_law_due" "_law_due" 735 736 737 196 1 3 433 true 181 434 .none .none .none 435 738 739
noncomputable abbrev k437 : PySem.Obj := kf (Mine.top 32) "_law_due" "_law_due" "law_drawhouse_k32_houses_refused" 695 436
noncomputable abbrev k443 : PySem.Obj := kc "_law_word" "_law_word" 741 742 743 210 1 3 438 true 181 439 .none (.ref 440) (.ref 441) 442 746 747
noncomputable abbrev k444 : PySem.Obj := kf (Mine.top 33) "_law_word" "_law_word" "law_drawhouse_k32_houses_refused" 695 443
noncomputable abbrev k448 : PySem.Obj := kc "_law_told" "_law_told" 749 750 751 225 1 3 445 true 181 446 .none .none .none 447 752 753
noncomputable abbrev k449 : PySem.Obj := kf (Mine.top 34) "_law_told" "_law_told" "law_drawhouse_k32_houses_refused" 695 448
noncomputable abbrev k455 : PySem.Obj := kc "law" "law" 755 756 757 239 1 3 450 true 181 451 .none (.ref 452) (.ref 453) 454 766 767
noncomputable abbrev k456 : PySem.Obj := kf (Mine.top 35) "law" "law" "law_drawhouse_k32_houses_refused" 695 455
open PySem in
noncomputable def myK : PySem.Params → PySem.W.Frag := fun P =>
  (nat_lit 2, { cls := Value.none, data := Data.dict #[] }) ::
  (nat_lit 3, { cls := .type "dict", data := .dict #[⟨PyData.keyHash P "__name__", .str "__name__" 165, .str "law_drawhouse_k32_houses_refused" 695⟩, ⟨PyData.keyHash P "__doc__", .str "__doc__" 166, .none⟩, ⟨PyData.keyHash P "__package__", .str "__package__" 167, .none⟩, ⟨PyData.keyHash P "__loader__", .str "__loader__" 168, .builtin "__main__.__loader__#opaque"⟩, ⟨PyData.keyHash P "__spec__", .str "__spec__" 169, .none⟩, ⟨PyData.keyHash P "__annotations__", .str "__annotations__" 170, .ref 6⟩, ⟨PyData.keyHash P "__builtins__", .str "__builtins__" 171, .ref 4⟩, ⟨PyData.keyHash P "__file__", .str "__file__" 173, .str "/claim/cut.py" 172⟩, ⟨PyData.keyHash P "__cached__", .str "__cached__" 174, .none⟩, ⟨PyData.keyHash P "_wall", .str "_wall" 193, .ref 21⟩, ⟨PyData.keyHash P "HouseError", .str "HouseError" 213, .ref 31⟩, ⟨PyData.keyHash P "NoExpr", .str "NoExpr" 229, .ref 44⟩, ⟨PyData.keyHash P "NoText", .str "NoText" 254, .ref 63⟩, ⟨PyData.keyHash P "TooMany", .str "TooMany" 279, .ref 82⟩, ⟨PyData.keyHash P "Twice", .str "Twice" 304, .ref 101⟩, ⟨PyData.keyHash P "Double", .str "Double" 329, .ref 120⟩, ⟨PyData.keyHash P "Orphan", .str "Orphan" 354, .ref 139⟩, ⟨PyData.keyHash P "Clash", .str "Clash" 379, .ref 158⟩, ⟨PyData.keyHash P "NoPart", .str "NoPart" 404, .ref 177⟩, ⟨PyData.keyHash P "NoDrop", .str "NoDrop" 429, .ref 196⟩, ⟨PyData.keyHash P "NoName", .str "NoName" 454, .ref 215⟩, ⟨PyData.keyHash P "parent_of", .str "parent_of" 463, .ref 224⟩, ⟨PyData.keyHash P "MOST_PARTS", .str "MOST_PARTS" 467, .int 12 466⟩, ⟨PyData.keyHash P "is_orphan", .str "is_orphan" 476, .ref 231⟩, ⟨PyData.keyHash P "is_clash", .str "is_clash" 482, .ref 236⟩, ⟨PyData.keyHash P "check_parts", .str "check_parts" 488, .ref 241⟩, ⟨PyData.keyHash P "House", .str "House" 556, .ref 291⟩, ⟨PyData.keyHash P "Part", .str "Part" 610, .ref 331⟩, ⟨PyData.keyHash P "Row", .str "Row" 653, .ref 366⟩, ⟨PyData.keyHash P "Let", .str "Let" 694, .ref 401⟩, ⟨PyData.keyHash P "_law_cell", .str "_law_cell" 704, .ref 410⟩, ⟨PyData.keyHash P "_law_pick", .str "_law_pick" 716, .ref 417⟩, ⟨PyData.keyHash P "_law_words", .str "_law_words" 722, .ref 422⟩, ⟨PyData.keyHash P "_law_addresses", .str "_law_addresses" 728, .ref 427⟩, ⟨PyData.keyHash P "_law_spoilt", .str "_law_spoilt" 734, .ref 432⟩, ⟨PyData.keyHash P "_law_due", .str "_law_due" 740, .ref 437⟩, ⟨PyData.keyHash P "_law_word", .str "_law_word" 748, .ref 444⟩, ⟨PyData.keyHash P "_law_told", .str "_law_told" 754, .ref 449⟩, ⟨PyData.keyHash P "law", .str "law" 768, .ref 456⟩] 39 }) ::
  (nat_lit 20, k20) ::
  (nat_lit 21, k21) ::
  (nat_lit 30, k30 P) ::
  (nat_lit 31, k31) ::
  (nat_lit 32, k32) ::
  (nat_lit 43, k43 P) ::
  (nat_lit 44, k44) ::
  (nat_lit 59, k59) ::
  (nat_lit 60, k60) ::
  (nat_lit 62, k62 P) ::
  (nat_lit 63, k63) ::
  (nat_lit 78, k78) ::
  (nat_lit 79, k79) ::
  (nat_lit 81, k81 P) ::
  (nat_lit 82, k82) ::
  (nat_lit 97, k97) ::
  (nat_lit 98, k98) ::
  (nat_lit 100, k100 P) ::
  (nat_lit 101, k101) ::
  (nat_lit 116, k116) ::
  (nat_lit 117, k117) ::
  (nat_lit 119, k119 P) ::
  (nat_lit 120, k120) ::
  (nat_lit 135, k135) ::
  (nat_lit 136, k136) ::
  (nat_lit 138, k138 P) ::
  (nat_lit 139, k139) ::
  (nat_lit 154, k154) ::
  (nat_lit 155, k155) ::
  (nat_lit 157, k157 P) ::
  (nat_lit 158, k158) ::
  (nat_lit 173, k173) ::
  (nat_lit 174, k174) ::
  (nat_lit 176, k176 P) ::
  (nat_lit 177, k177) ::
  (nat_lit 192, k192) ::
  (nat_lit 193, k193) ::
  (nat_lit 195, k195 P) ::
  (nat_lit 196, k196) ::
  (nat_lit 211, k211) ::
  (nat_lit 212, k212) ::
  (nat_lit 214, k214 P) ::
  (nat_lit 215, k215) ::
  (nat_lit 223, k223) ::
  (nat_lit 224, k224) ::
  (nat_lit 230, k230) ::
  (nat_lit 231, k231) ::
  (nat_lit 235, k235) ::
  (nat_lit 236, k236) ::
  (nat_lit 240, k240) ::
  (nat_lit 241, k241) ::
  (nat_lit 254, k254) ::
  (nat_lit 255, k255) ::
  (nat_lit 259, k259) ::
  (nat_lit 260, k260) ::
  (nat_lit 266, k266) ::
  (nat_lit 267, k267) ::
  (nat_lit 273, k273) ::
  (nat_lit 274, k274) ::
  (nat_lit 280, k280) ::
  (nat_lit 281, k281) ::
  (nat_lit 287, k287) ::
  (nat_lit 288, k288) ::
  (nat_lit 290, k290 P) ::
  (nat_lit 291, k291) ::
  (nat_lit 292, k292) ::
  (nat_lit 293, k293) ::
  (nat_lit 308, k308) ::
  (nat_lit 309, k309) ::
  (nat_lit 313, k313) ::
  (nat_lit 314, k314) ::
  (nat_lit 320, k320) ::
  (nat_lit 321, k321) ::
  (nat_lit 327, k327) ::
  (nat_lit 328, k328) ::
  (nat_lit 330, k330 P) ::
  (nat_lit 331, k331) ::
  (nat_lit 332, k332) ::
  (nat_lit 333, k333) ::
  (nat_lit 348, k348) ::
  (nat_lit 349, k349) ::
  (nat_lit 355, k355) ::
  (nat_lit 356, k356) ::
  (nat_lit 362, k362) ::
  (nat_lit 363, k363) ::
  (nat_lit 365, k365 P) ::
  (nat_lit 366, k366) ::
  (nat_lit 367, k367) ::
  (nat_lit 368, k368) ::
  (nat_lit 383, k383) ::
  (nat_lit 384, k384) ::
  (nat_lit 390, k390) ::
  (nat_lit 391, k391) ::
  (nat_lit 397, k397) ::
  (nat_lit 398, k398) ::
  (nat_lit 400, k400 P) ::
  (nat_lit 401, k401) ::
  (nat_lit 409, k409) ::
  (nat_lit 410, k410) ::
  (nat_lit 416, k416) ::
  (nat_lit 417, k417) ::
  (nat_lit 421, k421) ::
  (nat_lit 422, k422) ::
  (nat_lit 426, k426) ::
  (nat_lit 427, k427) ::
  (nat_lit 431, k431) ::
  (nat_lit 432, k432) ::
  (nat_lit 436, k436) ::
  (nat_lit 437, k437) ::
  (nat_lit 443, k443) ::
  (nat_lit 444, k444) ::
  (nat_lit 448, k448) ::
  (nat_lit 449, k449) ::
  (nat_lit 455, k455) ::
  (nat_lit 456, k456) ::
  []
end Mine
set_option maxHeartbeats 0
namespace Hd
open PySem PySem.W PySem.Calls PyProof.Rows
noncomputable def put (t : BT) : Nat → Obj → BT := BT.rec (motive := fun _ => Nat → Obj → BT) (fun _ o => .node o .nil .nil) (fun v l r x y i o => match i with | 0 => .node o l r | j + 1 => bif Nat.beq (j % 2) 0 then .node v (x (j / 2) o) r else .node v l (y (j / 2) o)) t
noncomputable def puts (t : BT) (l : List (Nat × Obj)) : BT := l.foldl (fun t p => put t p.1 p.2) t
noncomputable def en (P : Params) (x : Str) (t : Nat) (v : Value) : DictEntry := ⟨PyData.keyHash P x, .str x t, v⟩
noncomputable def fo (s : Stmt) (n q m : Str) (t c : Nat) : Obj := ⟨.type "function", none, .func { name := n, qualname := q, params := L2.defArgs s, body := .stmts (L2.defBody s), scope := L2.defScope s, globals := 3, closure := [], defaults := .none, kwdefaults := .none, pyModule := .str m t, code := .ref c }, #[]⟩
noncomputable def pf (s : Stmt) (n q : Str) : Obj := ⟨.none, none, .func { name := n, qualname := q, params := L2.defArgs s, body := .stmts (L2.defBody s), scope := L2.defScope s, globals := 0, closure := [], defaults := .none, kwdefaults := .none }, #[]⟩
noncomputable def tu (l : List Value) : Obj := ⟨.type "tuple", none, .seq l.toArray, #[]⟩
noncomputable def eT : Obj := tu []
noncomputable def eF : Obj := { cls := .none, data := .fields #[] }
noncomputable def co (n q : Str) (a b c : Nat) (l k : Int) (f r : Nat) (t : Bool) (g : Int) (u : Nat) (x y z : Value) (v : Nat) (m : Int) (e : Nat) : Obj := { cls := .type "code", data := .fields #[.str n a, .str q b, .str "/claim/cut.py" c, .int l 0, .int k 0, .int 0 0, .int 0 0, .int f 0, .ref r, .bool t, .int g 0, .ref u, x, y, z, .ref v, .int m 0, .int l 0, .str "/claim/cut.py" e] }
noncomputable def env : Env := { scope := PySem.Challenge.pw_drawhouse_k32_houses_refused.main.scope, locals := mainNs, globals := mainNs, cells := [], code := Value.ref 13, frame := some 14 }
noncomputable def cE : Code := .body (behindTheImports PySem.Challenge.pw_drawhouse_k32_houses_refused) env
noncomputable def fr : List Frame := [topFrame { line := 0, col := 0, endLine := 0, endCol := 0 }]
noncomputable def sl (a n : Nat) : List Stmt := ((behindTheImports PySem.Challenge.pw_drawhouse_k32_houses_refused).drop a).take n
noncomputable def o13 : Obj := { cls := .type "code", data := .fields #[.str "<module>" 182, .str "<module>" 183, .str "/claim/cut.py" 184, .int 1 0, .int 0 0, .int 0 0, .int 0 0, .int 0 0, .ref 11, .bool false, .int 181 0, .ref 12, .none, .none, .none, .none, .int 185 0, .int 1 0, .str "/claim/cut.py" 186] }
noncomputable def o14 : Obj := { cls := .type "frame", slots := #[some (.ref 13), some (.ref 3), some (.ref 3), none, some (.str "__main__" 164), none, some (.ref 0)] }
noncomputable def hA0 (P : Params) (r : List Obj) : List Obj := (boot_o_0 P) :: (boot_o_1 P) :: (boot_o_2 P) :: (boot_o_3 P) :: (boot_o_4 P) :: (boot_o_5 P) :: (boot_o_6 P) :: (boot_o_7 P) :: (boot_o_8 P) :: (boot_o_9 P) :: (boot_o_10 P) :: eT :: ({ cls := .none, data := .fields #[] }) :: o13 :: o14 :: r
noncomputable def hA (P : Params) : Heap := ⟨Array.mk (hA0 P ([])), { }⟩
noncomputable def Lp (w : World) (os : OsState) : Option (Shared × Thread) := topGo treeTable PySem.Challenge.pw_drawhouse_k32_houses_refused w 11 (some (Value.ref 6)) 12 ⟨boot_heap w.params, Array.mk [], boot_drawn, boot_toks, os⟩ (topStub PySem.Challenge.pw_drawhouse_k32_houses_refused)
noncomputable def Rp (w : World) (os : OsState) : Option (Shared × Thread) := some (⟨hA w.params, Array.mk [], { }, nat_lit 187, os⟩, ⟨denote treeTable cE, cE, { line := 0, col := 0, endLine := 0, endCol := 0 }, fr⟩)
theorem rLp : Lp = Lp := rfl
name_quick Lp for Hd.Lp by Hd.rLp
theorem rRp : Rp = Rp := rfl
name_quick Rp for Hd.Rp by Hd.rRp
theorem qp : PySem.W.Fast.Lp = PySem.W.Fast.Rp := by kernel_rfl
theorem ep : Lp = Rp := PySem.W.Fast.Lp_eq.trans (qp.trans PySem.W.Fast.Rp_eq.symm)
noncomputable def t0x0 (P : Params) : BT := puts .nil ((0, boot_o_0 P) :: (1, boot_o_1 P) :: (2, boot_o_2 P) :: (3, boot_o_3 P) :: (4, boot_o_4 P) :: (5, boot_o_5 P) :: (6, boot_o_6 P) :: (7, boot_o_7 P) :: (8, boot_o_8 P) :: (9, boot_o_9 P) :: (10, boot_o_10 P) :: (11, eT) :: [])
noncomputable def t0 (P : Params) : BT := puts (t0x0 P) ((12, { cls := .none, data := .fields #[] }) :: (13, o13) :: (14, o14) :: [])
noncomputable def Lb (w : World) (os : OsState) : Option (Flow × Shared × Code × Pos) := segRun treeTable PySem.Challenge.pw_drawhouse_k32_houses_refused w 11 (some (Value.ref 6)) 1 1 ⟨hA w.params, Array.mk [], { }, nat_lit 187, os⟩ (blockOf (behindTheImports PySem.Challenge.pw_drawhouse_k32_houses_refused) env cE { line := 0, col := 0, endLine := 0, endCol := 0 } fr)
noncomputable def Rb (w : World) (os : OsState) : Option (Flow × Shared × Code × Pos) := some (.next, SharedT.abs ⟨t0 w.params, nat_lit 15, { }, Array.mk [], { }, nat_lit 187, os⟩, cE, { line := 0, col := 0, endLine := 0, endCol := 0 })
theorem rLb : Lb = Lb := rfl
name_quick Lb for Hd.Lb by Hd.rLb
theorem rRb : Rb = Rb := rfl
name_quick Rb for Hd.Rb by Hd.rRb
theorem qb : PySem.W.Fast.Lb = PySem.W.Fast.Rb := by kernel_rfl
theorem eb : Lb = Rb := PySem.W.Fast.Lb_eq.trans (qb.trans PySem.W.Fast.Rb_eq.symm)
noncomputable def n0 (P : Params) (r : List DictEntry) : List DictEntry := en P "__name__" 165 (.str "drawhouse.errors" 194) :: en P "__doc__" 166 .none :: en P "__package__" 167 .none :: en P "__loader__" 168 (.builtin "__main__.__loader__#opaque") :: en P "__spec__" 169 .none :: en P "__annotations__" 170 (.ref 6) :: en P "__builtins__" 171 (.ref 4) :: en P "__file__" 173 (.str "/claim/cut.py" 172) :: en P "__cached__" 174 .none :: en P "_wall" 193 (.ref 21) :: en P "HouseError" 213 (.ref 31) :: en P "NoExpr" 229 (.ref 44) :: en P "NoText" 254 (.ref 63) :: en P "TooMany" 279 (.ref 82) :: en P "Twice" 304 (.ref 101) :: en P "Double" 329 (.ref 120) :: r
noncomputable def o17 : Obj := tu [.str "k" 190]
noncomputable def o19 : Obj := pf (Mine.top 0) "_wall" "_wall"
noncomputable def o22 : Obj := tu [.type "ValueError"]
noncomputable def o23 : Obj := { cls := .type "builtin_function_or_method", data := .fields #[.builtin "type.__prepare__", .type "type"] }
noncomputable def o24 (P : Params) : Obj := { cls := .type "dict", data := .dict #[en P "__module__" 203 (.str "drawhouse.errors" 194), en P "__qualname__" 205 (.str "HouseError" 204), en P "__firstlineno__" 207 (.int 5 206), en P "__static_attributes__" 208 (.ref 29)] 4 }
noncomputable def o27 : Obj := { cls := .type "code", data := .fields #[.str "HouseError" 198, .str "HouseError" 199, .str "/claim/cut.py" 200, .int 5 0, .int 0 0, .int 0 0, .int 0 0, .int 0 0, .ref 25, .bool false, .int 181 0, .ref 26, .none, .none, .none, .none, .int 201 0, .int 5 0, .str "/claim/cut.py" 202] }
noncomputable def o28 : Obj := { cls := .type "frame", slots := #[some (.ref 27), some (.ref 3), some (.ref 24), none, some (.str "drawhouse.errors" 194), none, some (.ref 0)] }
noncomputable def o33 : Obj := { cls := .type "super", data := .fields #[.ref 31, .ref 31, .ref 31] }
noncomputable def o34 : Obj := { cls := .type "builtin_function_or_method", data := .fields #[.builtin "object.__init_subclass__", .ref 31] }
noncomputable def o35 : Obj := tu [.ref 31]
noncomputable def o36 : Obj := { cls := .type "builtin_function_or_method", data := .fields #[.builtin "type.__prepare__", .type "type"] }
noncomputable def o37 (P : Params) : Obj := { cls := .type "dict", data := .dict #[en P "__module__" 221 (.str "drawhouse.errors" 194), en P "__qualname__" 223 (.str "NoExpr" 222), en P "__firstlineno__" 225 (.int 7 224), en P "__static_attributes__" 226 (.ref 42)] 4 }
noncomputable def o40 : Obj := { cls := .type "code", data := .fields #[.str "NoExpr" 216, .str "NoExpr" 217, .str "/claim/cut.py" 218, .int 7 0, .int 0 0, .int 0 0, .int 0 0, .int 0 0, .ref 38, .bool false, .int 181 0, .ref 39, .none, .none, .none, .none, .int 219 0, .int 7 0, .str "/claim/cut.py" 220] }
noncomputable def o41 : Obj := { cls := .type "frame", slots := #[some (.ref 40), some (.ref 3), some (.ref 37), none, some (.str "drawhouse.errors" 194), none, some (.ref 0)] }
noncomputable def o45 : Obj := { cls := .type "super", data := .fields #[.ref 44, .ref 44, .ref 44] }
noncomputable def o46 : Obj := { cls := .type "builtin_function_or_method", data := .fields #[.builtin "object.__init_subclass__", .ref 44] }
noncomputable def o47 : Obj := tu [.ref 31]
noncomputable def o48 : Obj := { cls := .type "builtin_function_or_method", data := .fields #[.builtin "type.__prepare__", .type "type"] }
noncomputable def o49 (P : Params) : Obj := { cls := .type "dict", data := .dict #[en P "__module__" 237 (.str "drawhouse.errors" 194), en P "__qualname__" 239 (.str "NoText" 238), en P "__firstlineno__" 241 (.int 9 240), en P "__init__" 249 (.ref 60), en P "__static_attributes__" 251 (.ref 61)] 5 }
noncomputable def o51 : Obj := { cls := .none, data := .fields #[.int 11 0, .int 4 0, .ref 59] }
noncomputable def o52 : Obj := { cls := .type "code", data := .fields #[.str "NoText" 232, .str "NoText" 233, .str "/claim/cut.py" 234, .int 9 0, .int 0 0, .int 0 0, .int 0 0, .int 0 0, .ref 50, .bool false, .int 181 0, .ref 51, .none, .none, .none, .none, .int 235 0, .int 9 0, .str "/claim/cut.py" 236] }
noncomputable def o53 : Obj := { cls := .type "frame", slots := #[some (.ref 52), some (.ref 3), some (.ref 49), none, some (.str "drawhouse.errors" 194), none, some (.ref 0)] }
noncomputable def o56 : Obj := tu [.str "self" 245, .str "at" 246]
noncomputable def o58 : Obj := pf ((Mine.clsBody (Mine.top 4)).getD 0 (.Pass ⟨0, 0, 0, 0⟩)) "__init__" "NoText.__init__"
noncomputable def o61 : Obj := tu [.str "at" 250]
noncomputable def o64 : Obj := { cls := .type "super", data := .fields #[.ref 63, .ref 63, .ref 63] }
noncomputable def o65 : Obj := { cls := .type "builtin_function_or_method", data := .fields #[.builtin "object.__init_subclass__", .ref 63] }
noncomputable def o66 : Obj := tu [.ref 31]
noncomputable def o67 : Obj := { cls := .type "builtin_function_or_method", data := .fields #[.builtin "type.__prepare__", .type "type"] }
noncomputable def o68 (P : Params) : Obj := { cls := .type "dict", data := .dict #[en P "__module__" 262 (.str "drawhouse.errors" 194), en P "__qualname__" 264 (.str "TooMany" 263), en P "__firstlineno__" 266 (.int 14 265), en P "__init__" 274 (.ref 79), en P "__static_attributes__" 276 (.ref 80)] 5 }
noncomputable def o70 : Obj := { cls := .none, data := .fields #[.int 16 0, .int 4 0, .ref 78] }
noncomputable def o71 : Obj := { cls := .type "code", data := .fields #[.str "TooMany" 257, .str "TooMany" 258, .str "/claim/cut.py" 259, .int 14 0, .int 0 0, .int 0 0, .int 0 0, .int 0 0, .ref 69, .bool false, .int 181 0, .ref 70, .none, .none, .none, .none, .int 260 0, .int 14 0, .str "/claim/cut.py" 261] }
noncomputable def o72 : Obj := { cls := .type "frame", slots := #[some (.ref 71), some (.ref 3), some (.ref 68), none, some (.str "drawhouse.errors" 194), none, some (.ref 0)] }
noncomputable def o75 : Obj := tu [.str "self" 270, .str "at" 271]
noncomputable def o77 : Obj := pf ((Mine.clsBody (Mine.top 5)).getD 0 (.Pass ⟨0, 0, 0, 0⟩)) "__init__" "TooMany.__init__"
noncomputable def o80 : Obj := tu [.str "at" 275]
noncomputable def o83 : Obj := { cls := .type "super", data := .fields #[.ref 82, .ref 82, .ref 82] }
noncomputable def o84 : Obj := { cls := .type "builtin_function_or_method", data := .fields #[.builtin "object.__init_subclass__", .ref 82] }
noncomputable def o85 : Obj := tu [.ref 31]
noncomputable def o86 : Obj := { cls := .type "builtin_function_or_method", data := .fields #[.builtin "type.__prepare__", .type "type"] }
noncomputable def o87 (P : Params) : Obj := { cls := .type "dict", data := .dict #[en P "__module__" 287 (.str "drawhouse.errors" 194), en P "__qualname__" 289 (.str "Twice" 288), en P "__firstlineno__" 291 (.int 19 290), en P "__init__" 299 (.ref 98), en P "__static_attributes__" 301 (.ref 99)] 5 }
noncomputable def o89 : Obj := { cls := .none, data := .fields #[.int 21 0, .int 4 0, .ref 97] }
noncomputable def o90 : Obj := { cls := .type "code", data := .fields #[.str "Twice" 282, .str "Twice" 283, .str "/claim/cut.py" 284, .int 19 0, .int 0 0, .int 0 0, .int 0 0, .int 0 0, .ref 88, .bool false, .int 181 0, .ref 89, .none, .none, .none, .none, .int 285 0, .int 19 0, .str "/claim/cut.py" 286] }
noncomputable def o91 : Obj := { cls := .type "frame", slots := #[some (.ref 90), some (.ref 3), some (.ref 87), none, some (.str "drawhouse.errors" 194), none, some (.ref 0)] }
noncomputable def o94 : Obj := tu [.str "self" 295, .str "at" 296]
noncomputable def o96 : Obj := pf ((Mine.clsBody (Mine.top 6)).getD 0 (.Pass ⟨0, 0, 0, 0⟩)) "__init__" "Twice.__init__"
noncomputable def o99 : Obj := tu [.str "at" 300]
noncomputable def o102 : Obj := { cls := .type "super", data := .fields #[.ref 101, .ref 101, .ref 101] }
noncomputable def o103 : Obj := { cls := .type "builtin_function_or_method", data := .fields #[.builtin "object.__init_subclass__", .ref 101] }
noncomputable def o104 : Obj := tu [.ref 31]
noncomputable def o105 : Obj := { cls := .type "builtin_function_or_method", data := .fields #[.builtin "type.__prepare__", .type "type"] }
noncomputable def o106 (P : Params) : Obj := { cls := .type "dict", data := .dict #[en P "__module__" 312 (.str "drawhouse.errors" 194), en P "__qualname__" 314 (.str "Double" 313), en P "__firstlineno__" 316 (.int 24 315), en P "__init__" 324 (.ref 117), en P "__static_attributes__" 326 (.ref 118)] 5 }
noncomputable def o108 : Obj := { cls := .none, data := .fields #[.int 26 0, .int 4 0, .ref 116] }
noncomputable def o109 : Obj := { cls := .type "code", data := .fields #[.str "Double" 307, .str "Double" 308, .str "/claim/cut.py" 309, .int 24 0, .int 0 0, .int 0 0, .int 0 0, .int 0 0, .ref 107, .bool false, .int 181 0, .ref 108, .none, .none, .none, .none, .int 310 0, .int 24 0, .str "/claim/cut.py" 311] }
noncomputable def o110 : Obj := { cls := .type "frame", slots := #[some (.ref 109), some (.ref 3), some (.ref 106), none, some (.str "drawhouse.errors" 194), none, some (.ref 0)] }
noncomputable def o113 : Obj := tu [.str "self" 320, .str "at" 321]
noncomputable def o115 : Obj := pf ((Mine.clsBody (Mine.top 7)).getD 0 (.Pass ⟨0, 0, 0, 0⟩)) "__init__" "Double.__init__"
noncomputable def o118 : Obj := tu [.str "at" 325]
noncomputable def o121 : Obj := { cls := .type "super", data := .fields #[.ref 120, .ref 120, .ref 120] }
noncomputable def o122 : Obj := { cls := .type "builtin_function_or_method", data := .fields #[.builtin "object.__init_subclass__", .ref 120] }
noncomputable def t1x0 (P : Params) : BT := puts (t0 P) ((3, { cls := .type "dict", data := .dict (List.toArray (n0 P ([]))) 16 }) :: (12, { cls := .none, data := .fields #[.int 1 0, .int 0 0, .ref 20, .int 5 0, .int 0 0, .ref 27, .int 7 0, .int 0 0, .ref 40, .int 9 0, .int 0 0, .ref 52, .int 14 0, .int 0 0, .ref 71, .int 19 0, .int 0 0, .ref 90, .int 24 0, .int 0 0, .ref 109] }) :: (15, eT) :: (16, eF) :: (17, o17) :: (18, eT) :: (19, o19) :: (20, Mine.k20) :: (21, Mine.k21) :: (22, o22) :: (23, o23) :: (24, o24 P) :: [])
noncomputable def t1x1 (P : Params) : BT := puts (t1x0 P) ((25, eT) :: (26, eF) :: (27, o27) :: (28, o28) :: (29, eT) :: (30, Mine.k30 P) :: (31, { cls := .type "type", data := .cls { name := Str.ofString "HouseError", bases := [.type "ValueError"], mro := [.ref 31, .type "ValueError", .type "Exception", .type "BaseException", .type "object"], ns := 30, qualname := Str.ofString "HouseError", subclasses := [.ref 44, .ref 63, .ref 82, .ref 101, .ref 120] }, slots := #[some (.ref 22), none, some (.str "HouseError" 196), some (.str "HouseError" 204), some (.builtin "ValueError.__new__"), some (.bool true)] }) :: (32, Mine.k32) :: (33, o33) :: (34, o34) :: (35, o35) :: (36, o36) :: [])
noncomputable def t1x2 (P : Params) : BT := puts (t1x1 P) ((37, o37 P) :: (38, eT) :: (39, eF) :: (40, o40) :: (41, o41) :: (42, eT) :: (43, Mine.k43 P) :: (44, Mine.k44) :: (45, o45) :: (46, o46) :: (47, o47) :: (48, o48) :: [])
noncomputable def t1x3 (P : Params) : BT := puts (t1x2 P) ((49, o49 P) :: (50, eT) :: (51, o51) :: (52, o52) :: (53, o53) :: (54, eT) :: (55, eF) :: (56, o56) :: (57, eT) :: (58, o58) :: (59, Mine.k59) :: (60, Mine.k60) :: [])
noncomputable def t1x4 (P : Params) : BT := puts (t1x3 P) ((61, o61) :: (62, Mine.k62 P) :: (63, Mine.k63) :: (64, o64) :: (65, o65) :: (66, o66) :: (67, o67) :: (68, o68 P) :: (69, eT) :: (70, o70) :: (71, o71) :: (72, o72) :: [])
noncomputable def t1x5 (P : Params) : BT := puts (t1x4 P) ((73, eT) :: (74, eF) :: (75, o75) :: (76, eT) :: (77, o77) :: (78, Mine.k78) :: (79, Mine.k79) :: (80, o80) :: (81, Mine.k81 P) :: (82, Mine.k82) :: (83, o83) :: (84, o84) :: [])
noncomputable def t1x6 (P : Params) : BT := puts (t1x5 P) ((85, o85) :: (86, o86) :: (87, o87 P) :: (88, eT) :: (89, o89) :: (90, o90) :: (91, o91) :: (92, eT) :: (93, eF) :: (94, o94) :: (95, eT) :: (96, o96) :: [])
noncomputable def t1x7 (P : Params) : BT := puts (t1x6 P) ((97, Mine.k97) :: (98, Mine.k98) :: (99, o99) :: (100, Mine.k100 P) :: (101, Mine.k101) :: (102, o102) :: (103, o103) :: (104, o104) :: (105, o105) :: (106, o106 P) :: (107, eT) :: (108, o108) :: [])
noncomputable def t1x8 (P : Params) : BT := puts (t1x7 P) ((109, o109) :: (110, o110) :: (111, eT) :: (112, eF) :: (113, o113) :: (114, eT) :: (115, o115) :: (116, Mine.k116) :: (117, Mine.k117) :: (118, o118) :: (119, Mine.k119 P) :: (120, Mine.k120) :: [])
noncomputable def t1 (P : Params) : BT := puts (t1x8 P) ((121, o121) :: (122, o122) :: [])
noncomputable def L0 (w : World) (os : OsState) : Option (Flow × SharedT × Code × Pos) := segRunT treeTable PySem.Challenge.pw_drawhouse_k32_houses_refused w 11 (some (Value.ref 6)) 1 1418 ⟨t0 w.params, nat_lit 15, { }, Array.mk [], { }, nat_lit 187, os⟩ (piecesOf (sl 0 8) env cE { line := 0, col := 0, endLine := 0, endCol := 0 } fr)
noncomputable def R0 (w : World) (os : OsState) : Option (Flow × SharedT × Code × Pos) := some (.next, ⟨t1 w.params, nat_lit 123, { }, Array.mk [], { }, nat_lit 330, os⟩, cE, { line := 24, col := 0, endLine := 28, endCol := 20 })
theorem rL0 : L0 = L0 := rfl
name_quick L0 for Hd.L0 by Hd.rL0
theorem rR0 : R0 = R0 := rfl
name_quick R0 for Hd.R0 by Hd.rR0
theorem q0 : PySem.W.Fast.L0 = PySem.W.Fast.R0 := by kernel_rfl
theorem e0 : L0 = R0 := PySem.W.Fast.L0_eq.trans (q0.trans PySem.W.Fast.R0_eq.symm)
noncomputable def n1 (P : Params) (r : List DictEntry) : List DictEntry := en P "__name__" 165 (.str "drawhouse.house" 464) :: en P "__doc__" 166 .none :: en P "__package__" 167 .none :: en P "__loader__" 168 (.builtin "__main__.__loader__#opaque") :: en P "__spec__" 169 .none :: en P "__annotations__" 170 (.ref 6) :: en P "__builtins__" 171 (.ref 4) :: en P "__file__" 173 (.str "/claim/cut.py" 172) :: en P "__cached__" 174 .none :: en P "_wall" 193 (.ref 21) :: en P "HouseError" 213 (.ref 31) :: en P "NoExpr" 229 (.ref 44) :: en P "NoText" 254 (.ref 63) :: en P "TooMany" 279 (.ref 82) :: en P "Twice" 304 (.ref 101) :: en P "Double" 329 (.ref 120) :: en P "Orphan" 354 (.ref 139) :: en P "Clash" 379 (.ref 158) :: en P "NoPart" 404 (.ref 177) :: en P "NoDrop" 429 (.ref 196) :: en P "NoName" 454 (.ref 215) :: en P "parent_of" 463 (.ref 224) :: en P "MOST_PARTS" 467 (.int 12 466) :: en P "is_orphan" 476 (.ref 231) :: en P "is_clash" 482 (.ref 236) :: en P "check_parts" 488 (.ref 241) :: r
noncomputable def o123 : Obj := tu [.ref 31]
noncomputable def o124 : Obj := { cls := .type "builtin_function_or_method", data := .fields #[.builtin "type.__prepare__", .type "type"] }
noncomputable def o125 (P : Params) : Obj := { cls := .type "dict", data := .dict #[en P "__module__" 337 (.str "drawhouse.errors" 194), en P "__qualname__" 339 (.str "Orphan" 338), en P "__firstlineno__" 341 (.int 29 340), en P "__init__" 349 (.ref 136), en P "__static_attributes__" 351 (.ref 137)] 5 }
noncomputable def o127 : Obj := { cls := .none, data := .fields #[.int 31 0, .int 4 0, .ref 135] }
noncomputable def o128 : Obj := { cls := .type "code", data := .fields #[.str "Orphan" 332, .str "Orphan" 333, .str "/claim/cut.py" 334, .int 29 0, .int 0 0, .int 0 0, .int 0 0, .int 0 0, .ref 126, .bool false, .int 181 0, .ref 127, .none, .none, .none, .none, .int 335 0, .int 29 0, .str "/claim/cut.py" 336] }
noncomputable def o129 : Obj := { cls := .type "frame", slots := #[some (.ref 128), some (.ref 3), some (.ref 125), none, some (.str "drawhouse.errors" 194), none, some (.ref 0)] }
noncomputable def o132 : Obj := tu [.str "self" 345, .str "at" 346]
noncomputable def o134 : Obj := pf ((Mine.clsBody (Mine.top 8)).getD 0 (.Pass ⟨0, 0, 0, 0⟩)) "__init__" "Orphan.__init__"
noncomputable def o137 : Obj := tu [.str "at" 350]
noncomputable def o140 : Obj := { cls := .type "super", data := .fields #[.ref 139, .ref 139, .ref 139] }
noncomputable def o141 : Obj := { cls := .type "builtin_function_or_method", data := .fields #[.builtin "object.__init_subclass__", .ref 139] }
noncomputable def o142 : Obj := tu [.ref 31]
noncomputable def o143 : Obj := { cls := .type "builtin_function_or_method", data := .fields #[.builtin "type.__prepare__", .type "type"] }
noncomputable def o144 (P : Params) : Obj := { cls := .type "dict", data := .dict #[en P "__module__" 362 (.str "drawhouse.errors" 194), en P "__qualname__" 364 (.str "Clash" 363), en P "__firstlineno__" 366 (.int 34 365), en P "__init__" 374 (.ref 155), en P "__static_attributes__" 376 (.ref 156)] 5 }
noncomputable def o146 : Obj := { cls := .none, data := .fields #[.int 36 0, .int 4 0, .ref 154] }
noncomputable def o147 : Obj := { cls := .type "code", data := .fields #[.str "Clash" 357, .str "Clash" 358, .str "/claim/cut.py" 359, .int 34 0, .int 0 0, .int 0 0, .int 0 0, .int 0 0, .ref 145, .bool false, .int 181 0, .ref 146, .none, .none, .none, .none, .int 360 0, .int 34 0, .str "/claim/cut.py" 361] }
noncomputable def o148 : Obj := { cls := .type "frame", slots := #[some (.ref 147), some (.ref 3), some (.ref 144), none, some (.str "drawhouse.errors" 194), none, some (.ref 0)] }
noncomputable def o151 : Obj := tu [.str "self" 370, .str "at" 371]
noncomputable def o153 : Obj := pf ((Mine.clsBody (Mine.top 9)).getD 0 (.Pass ⟨0, 0, 0, 0⟩)) "__init__" "Clash.__init__"
noncomputable def o156 : Obj := tu [.str "at" 375]
noncomputable def o159 : Obj := { cls := .type "super", data := .fields #[.ref 158, .ref 158, .ref 158] }
noncomputable def o160 : Obj := { cls := .type "builtin_function_or_method", data := .fields #[.builtin "object.__init_subclass__", .ref 158] }
noncomputable def o161 : Obj := tu [.ref 31]
noncomputable def o162 : Obj := { cls := .type "builtin_function_or_method", data := .fields #[.builtin "type.__prepare__", .type "type"] }
noncomputable def o163 (P : Params) : Obj := { cls := .type "dict", data := .dict #[en P "__module__" 387 (.str "drawhouse.errors" 194), en P "__qualname__" 389 (.str "NoPart" 388), en P "__firstlineno__" 391 (.int 39 390), en P "__init__" 399 (.ref 174), en P "__static_attributes__" 401 (.ref 175)] 5 }
noncomputable def o165 : Obj := { cls := .none, data := .fields #[.int 41 0, .int 4 0, .ref 173] }
noncomputable def o166 : Obj := { cls := .type "code", data := .fields #[.str "NoPart" 382, .str "NoPart" 383, .str "/claim/cut.py" 384, .int 39 0, .int 0 0, .int 0 0, .int 0 0, .int 0 0, .ref 164, .bool false, .int 181 0, .ref 165, .none, .none, .none, .none, .int 385 0, .int 39 0, .str "/claim/cut.py" 386] }
noncomputable def o167 : Obj := { cls := .type "frame", slots := #[some (.ref 166), some (.ref 3), some (.ref 163), none, some (.str "drawhouse.errors" 194), none, some (.ref 0)] }
noncomputable def o170 : Obj := tu [.str "self" 395, .str "address" 396]
noncomputable def o172 : Obj := pf ((Mine.clsBody (Mine.top 10)).getD 0 (.Pass ⟨0, 0, 0, 0⟩)) "__init__" "NoPart.__init__"
noncomputable def o175 : Obj := tu [.str "address" 400]
noncomputable def o178 : Obj := { cls := .type "super", data := .fields #[.ref 177, .ref 177, .ref 177] }
noncomputable def o179 : Obj := { cls := .type "builtin_function_or_method", data := .fields #[.builtin "object.__init_subclass__", .ref 177] }
noncomputable def o180 : Obj := tu [.ref 31]
noncomputable def o181 : Obj := { cls := .type "builtin_function_or_method", data := .fields #[.builtin "type.__prepare__", .type "type"] }
noncomputable def o182 (P : Params) : Obj := { cls := .type "dict", data := .dict #[en P "__module__" 412 (.str "drawhouse.errors" 194), en P "__qualname__" 414 (.str "NoDrop" 413), en P "__firstlineno__" 416 (.int 44 415), en P "__init__" 424 (.ref 193), en P "__static_attributes__" 426 (.ref 194)] 5 }
noncomputable def o184 : Obj := { cls := .none, data := .fields #[.int 46 0, .int 4 0, .ref 192] }
noncomputable def o185 : Obj := { cls := .type "code", data := .fields #[.str "NoDrop" 407, .str "NoDrop" 408, .str "/claim/cut.py" 409, .int 44 0, .int 0 0, .int 0 0, .int 0 0, .int 0 0, .ref 183, .bool false, .int 181 0, .ref 184, .none, .none, .none, .none, .int 410 0, .int 44 0, .str "/claim/cut.py" 411] }
noncomputable def o186 : Obj := { cls := .type "frame", slots := #[some (.ref 185), some (.ref 3), some (.ref 182), none, some (.str "drawhouse.errors" 194), none, some (.ref 0)] }
noncomputable def o189 : Obj := tu [.str "self" 420, .str "address" 421]
noncomputable def o191 : Obj := pf ((Mine.clsBody (Mine.top 11)).getD 0 (.Pass ⟨0, 0, 0, 0⟩)) "__init__" "NoDrop.__init__"
noncomputable def o194 : Obj := tu [.str "address" 425]
noncomputable def o197 : Obj := { cls := .type "super", data := .fields #[.ref 196, .ref 196, .ref 196] }
noncomputable def o198 : Obj := { cls := .type "builtin_function_or_method", data := .fields #[.builtin "object.__init_subclass__", .ref 196] }
noncomputable def o199 : Obj := tu [.ref 31]
noncomputable def o200 : Obj := { cls := .type "builtin_function_or_method", data := .fields #[.builtin "type.__prepare__", .type "type"] }
noncomputable def o201 (P : Params) : Obj := { cls := .type "dict", data := .dict #[en P "__module__" 437 (.str "drawhouse.errors" 194), en P "__qualname__" 439 (.str "NoName" 438), en P "__firstlineno__" 441 (.int 49 440), en P "__init__" 449 (.ref 212), en P "__static_attributes__" 451 (.ref 213)] 5 }
noncomputable def o203 : Obj := { cls := .none, data := .fields #[.int 51 0, .int 4 0, .ref 211] }
noncomputable def o204 : Obj := { cls := .type "code", data := .fields #[.str "NoName" 432, .str "NoName" 433, .str "/claim/cut.py" 434, .int 49 0, .int 0 0, .int 0 0, .int 0 0, .int 0 0, .ref 202, .bool false, .int 181 0, .ref 203, .none, .none, .none, .none, .int 435 0, .int 49 0, .str "/claim/cut.py" 436] }
noncomputable def o205 : Obj := { cls := .type "frame", slots := #[some (.ref 204), some (.ref 3), some (.ref 201), none, some (.str "drawhouse.errors" 194), none, some (.ref 0)] }
noncomputable def o208 : Obj := tu [.str "self" 445, .str "name" 446]
noncomputable def o210 : Obj := pf ((Mine.clsBody (Mine.top 12)).getD 0 (.Pass ⟨0, 0, 0, 0⟩)) "__init__" "NoName.__init__"
noncomputable def o213 : Obj := tu [.str "name" 450]
noncomputable def o216 : Obj := { cls := .type "super", data := .fields #[.ref 215, .ref 215, .ref 215] }
noncomputable def o217 : Obj := { cls := .type "builtin_function_or_method", data := .fields #[.builtin "object.__init_subclass__", .ref 215] }
noncomputable def o220 : Obj := tu [.str "address" 460]
noncomputable def o222 : Obj := pf (Mine.top 14) "parent_of" "parent_of"
noncomputable def o227 : Obj := tu [.str "part" 471, .str "addresses" 472, .str "parent" 473]
noncomputable def o229 : Obj := pf (Mine.top 17) "is_orphan" "is_orphan"
noncomputable def o234 : Obj := pf (Mine.top 18) "is_clash" "is_clash"
noncomputable def o239 : Obj := pf (Mine.top 19) "check_parts" "check_parts"
noncomputable def t2x0 (P : Params) : BT := puts (t1 P) ((3, { cls := .type "dict", data := .dict (List.toArray (n1 P ([]))) 26 }) :: (12, { cls := .none, data := .fields #[.int 1 0, .int 0 0, .ref 20, .int 5 0, .int 0 0, .ref 27, .int 7 0, .int 0 0, .ref 40, .int 9 0, .int 0 0, .ref 52, .int 14 0, .int 0 0, .ref 71, .int 19 0, .int 0 0, .ref 90, .int 24 0, .int 0 0, .ref 109, .int 29 0, .int 0 0, .ref 128, .int 34 0, .int 0 0, .ref 147, .int 39 0, .int 0 0, .ref 166, .int 44 0, .int 0 0, .ref 185, .int 49 0, .int 0 0, .ref 204, .int 55 0, .int 0 0, .ref 223, .int 59 0, .int 0 0, .ref 230, .int 62 0, .int 0 0, .ref 235, .int 64 0, .int 0 0, .ref 240] }) :: (31, Mine.k31) :: (123, o123) :: (124, o124) :: (125, o125 P) :: (126, eT) :: (127, o127) :: (128, o128) :: (129, o129) :: (130, eT) :: (131, eF) :: [])
noncomputable def t2x1 (P : Params) : BT := puts (t2x0 P) ((132, o132) :: (133, eT) :: (134, o134) :: (135, Mine.k135) :: (136, Mine.k136) :: (137, o137) :: (138, Mine.k138 P) :: (139, Mine.k139) :: (140, o140) :: (141, o141) :: (142, o142) :: (143, o143) :: [])
noncomputable def t2x2 (P : Params) : BT := puts (t2x1 P) ((144, o144 P) :: (145, eT) :: (146, o146) :: (147, o147) :: (148, o148) :: (149, eT) :: (150, eF) :: (151, o151) :: (152, eT) :: (153, o153) :: (154, Mine.k154) :: (155, Mine.k155) :: [])
noncomputable def t2x3 (P : Params) : BT := puts (t2x2 P) ((156, o156) :: (157, Mine.k157 P) :: (158, Mine.k158) :: (159, o159) :: (160, o160) :: (161, o161) :: (162, o162) :: (163, o163 P) :: (164, eT) :: (165, o165) :: (166, o166) :: (167, o167) :: [])
noncomputable def t2x4 (P : Params) : BT := puts (t2x3 P) ((168, eT) :: (169, eF) :: (170, o170) :: (171, eT) :: (172, o172) :: (173, Mine.k173) :: (174, Mine.k174) :: (175, o175) :: (176, Mine.k176 P) :: (177, Mine.k177) :: (178, o178) :: (179, o179) :: [])
noncomputable def t2x5 (P : Params) : BT := puts (t2x4 P) ((180, o180) :: (181, o181) :: (182, o182 P) :: (183, eT) :: (184, o184) :: (185, o185) :: (186, o186) :: (187, eT) :: (188, eF) :: (189, o189) :: (190, eT) :: (191, o191) :: [])
noncomputable def t2x6 (P : Params) : BT := puts (t2x5 P) ((192, Mine.k192) :: (193, Mine.k193) :: (194, o194) :: (195, Mine.k195 P) :: (196, Mine.k196) :: (197, o197) :: (198, o198) :: (199, o199) :: (200, o200) :: (201, o201 P) :: (202, eT) :: (203, o203) :: [])
noncomputable def t2x7 (P : Params) : BT := puts (t2x6 P) ((204, o204) :: (205, o205) :: (206, eT) :: (207, eF) :: (208, o208) :: (209, eT) :: (210, o210) :: (211, Mine.k211) :: (212, Mine.k212) :: (213, o213) :: (214, Mine.k214 P) :: (215, Mine.k215) :: [])
noncomputable def t2x8 (P : Params) : BT := puts (t2x7 P) ((216, o216) :: (217, o217) :: (218, eT) :: (219, eF) :: (220, o220) :: (221, eT) :: (222, o222) :: (223, Mine.k223) :: (224, Mine.k224) :: (225, eT) :: (226, eF) :: (227, o227) :: [])
noncomputable def t2x9 (P : Params) : BT := puts (t2x8 P) ((228, eT) :: (229, o229) :: (230, Mine.k230) :: (231, Mine.k231) :: (232, eT) :: (233, eF) :: (234, o234) :: (235, Mine.k235) :: (236, Mine.k236) :: (237, eT) :: (238, eF) :: (239, o239) :: [])
noncomputable def t2 (P : Params) : BT := puts (t2x9 P) ((240, Mine.k240) :: (241, Mine.k241) :: [])
noncomputable def L1 (w : World) (os : OsState) : Option (Flow × SharedT × Code × Pos) := segRunT treeTable PySem.Challenge.pw_drawhouse_k32_houses_refused w 11 (some (Value.ref 6)) 1 1365 ⟨t1 w.params, nat_lit 123, { }, Array.mk [], { }, nat_lit 330, os⟩ (piecesOf (sl 8 12) env cE { line := 24, col := 0, endLine := 28, endCol := 20 } fr)
noncomputable def R1 (w : World) (os : OsState) : Option (Flow × SharedT × Code × Pos) := some (.next, ⟨t2 w.params, nat_lit 242, { }, Array.mk [], { }, nat_lit 489, os⟩, cE, { line := 64, col := 0, endLine := 74, endCol := 27 })
theorem rL1 : L1 = L1 := rfl
name_quick L1 for Hd.L1 by Hd.rL1
theorem rR1 : R1 = R1 := rfl
name_quick R1 for Hd.R1 by Hd.rR1
theorem q1 : PySem.W.Fast.L1 = PySem.W.Fast.R1 := by kernel_rfl
theorem e1 : L1 = R1 := PySem.W.Fast.L1_eq.trans (q1.trans PySem.W.Fast.R1_eq.symm)
noncomputable def n2 (P : Params) (r : List DictEntry) : List DictEntry := en P "__name__" 165 (.str "law_drawhouse_k32_houses_refused" 695) :: en P "__doc__" 166 .none :: en P "__package__" 167 .none :: en P "__loader__" 168 (.builtin "__main__.__loader__#opaque") :: en P "__spec__" 169 .none :: en P "__annotations__" 170 (.ref 6) :: en P "__builtins__" 171 (.ref 4) :: en P "__file__" 173 (.str "/claim/cut.py" 172) :: en P "__cached__" 174 .none :: en P "_wall" 193 (.ref 21) :: en P "HouseError" 213 (.ref 31) :: en P "NoExpr" 229 (.ref 44) :: en P "NoText" 254 (.ref 63) :: en P "TooMany" 279 (.ref 82) :: en P "Twice" 304 (.ref 101) :: en P "Double" 329 (.ref 120) :: en P "Orphan" 354 (.ref 139) :: en P "Clash" 379 (.ref 158) :: en P "NoPart" 404 (.ref 177) :: en P "NoDrop" 429 (.ref 196) :: en P "NoName" 454 (.ref 215) :: en P "parent_of" 463 (.ref 224) :: en P "MOST_PARTS" 467 (.int 12 466) :: en P "is_orphan" 476 (.ref 231) :: en P "is_clash" 482 (.ref 236) :: en P "check_parts" 488 (.ref 241) :: en P "House" 556 (.ref 291) :: en P "Part" 610 (.ref 331) :: en P "Row" 653 (.ref 366) :: en P "Let" 694 (.ref 401) :: en P "_law_cell" 704 (.ref 410) :: en P "_law_pick" 716 (.ref 417) :: en P "_law_words" 722 (.ref 422) :: en P "_law_addresses" 728 (.ref 427) :: en P "_law_spoilt" 734 (.ref 432) :: en P "_law_due" 740 (.ref 437) :: en P "_law_word" 748 (.ref 444) :: en P "_law_told" 754 (.ref 449) :: en P "law" 768 (.ref 456) :: r
noncomputable def o3 (P : Params) : Obj := { cls := .type "dict", data := .dict (List.toArray (n2 P ([]))) 39 }
noncomputable def o12 : Obj := { cls := .none, data := .fields #[.int 1 0, .int 0 0, .ref 20, .int 5 0, .int 0 0, .ref 27, .int 7 0, .int 0 0, .ref 40, .int 9 0, .int 0 0, .ref 52, .int 14 0, .int 0 0, .ref 71, .int 19 0, .int 0 0, .ref 90, .int 24 0, .int 0 0, .ref 109, .int 29 0, .int 0 0, .ref 128, .int 34 0, .int 0 0, .ref 147, .int 39 0, .int 0 0, .ref 166, .int 44 0, .int 0 0, .ref 185, .int 49 0, .int 0 0, .ref 204, .int 55 0, .int 0 0, .ref 223, .int 59 0, .int 0 0, .ref 230, .int 62 0, .int 0 0, .ref 235, .int 64 0, .int 0 0, .ref 240, .int 75 0, .int 0 0, .ref 247, .int 99 0, .int 0 0, .ref 301, .int 115 0, .int 0 0, .ref 341, .int 125 0, .int 0 0, .ref 376, .int 137 0, .int 0 0, .ref 409, .int 141 0, .int 0 0, .ref 416, .int 150 0, .int 0 0, .ref 421, .int 163 0, .int 0 0, .ref 426, .int 176 0, .int 0 0, .ref 431, .int 196 0, .int 0 0, .ref 436, .int 210 0, .int 0 0, .ref 443, .int 225 0, .int 0 0, .ref 448, .int 239 0, .int 0 0, .ref 455] }
noncomputable def o243 : Obj := { cls := .type "builtin_function_or_method", data := .fields #[.builtin "type.__prepare__", .type "type"] }
noncomputable def o244 (P : Params) : Obj := { cls := .type "dict", data := .dict #[en P "__module__" 496 (.str "drawhouse.house" 464), en P "__qualname__" 498 (.str "House" 497), en P "__firstlineno__" 500 (.int 75 499), en P "__init__" 508 (.ref 255), en P "addresses" 514 (.ref 260), en P "has" 522 (.ref 267), en P "part" 531 (.ref 274), en P "with_part" 539 (.ref 281), en P "without" 547 (.ref 288), en P "__static_attributes__" 549 (.ref 289)] 10 }
noncomputable def o246 : Obj := { cls := .none, data := .fields #[.int 77 0, .int 4 0, .ref 254, .int 81 0, .int 4 0, .ref 259, .int 84 0, .int 4 0, .ref 266, .int 87 0, .int 4 0, .ref 273, .int 93 0, .int 4 0, .ref 280, .int 96 0, .int 4 0, .ref 287] }
noncomputable def o247 : Obj := { cls := .type "code", data := .fields #[.str "House" 491, .str "House" 492, .str "/claim/cut.py" 493, .int 75 0, .int 0 0, .int 0 0, .int 0 0, .int 0 0, .ref 245, .bool false, .int 181 0, .ref 246, .none, .none, .none, .none, .int 494 0, .int 75 0, .str "/claim/cut.py" 495] }
noncomputable def o248 : Obj := { cls := .type "frame", slots := #[some (.ref 247), some (.ref 3), some (.ref 244), none, some (.str "drawhouse.house" 464), none, some (.ref 0)] }
noncomputable def o251 : Obj := tu [.str "self" 504, .str "parts" 505]
noncomputable def o253 : Obj := pf ((Mine.clsBody (Mine.top 20)).getD 0 (.Pass ⟨0, 0, 0, 0⟩)) "__init__" "House.__init__"
noncomputable def o258 : Obj := pf ((Mine.clsBody (Mine.top 20)).getD 1 (.Pass ⟨0, 0, 0, 0⟩)) "addresses" "House.addresses"
noncomputable def o263 : Obj := tu [.str "self" 518, .str "address" 519]
noncomputable def o265 : Obj := pf ((Mine.clsBody (Mine.top 20)).getD 2 (.Pass ⟨0, 0, 0, 0⟩)) "has" "House.has"
noncomputable def o270 : Obj := tu [.str "self" 526, .str "address" 527, .str "part" 528]
noncomputable def o272 : Obj := pf ((Mine.clsBody (Mine.top 20)).getD 3 (.Pass ⟨0, 0, 0, 0⟩)) "part" "House.part"
noncomputable def o277 : Obj := tu [.str "self" 535, .str "part" 536]
noncomputable def o279 : Obj := pf ((Mine.clsBody (Mine.top 20)).getD 4 (.Pass ⟨0, 0, 0, 0⟩)) "with_part" "House.with_part"
noncomputable def o284 : Obj := tu [.str "self" 543, .str "address" 544]
noncomputable def o286 : Obj := pf ((Mine.clsBody (Mine.top 20)).getD 5 (.Pass ⟨0, 0, 0, 0⟩)) "without" "House.without"
noncomputable def o289 : Obj := tu [.str "told" 548]
noncomputable def o294 : Obj := { cls := .type "super", data := .fields #[.ref 291, .ref 291, .ref 291] }
noncomputable def o295 : Obj := { cls := .type "builtin_function_or_method", data := .fields #[.builtin "object.__init_subclass__", .ref 291] }
noncomputable def o297 : Obj := { cls := .type "builtin_function_or_method", data := .fields #[.builtin "type.__prepare__", .type "type"] }
noncomputable def o298 (P : Params) : Obj := { cls := .type "dict", data := .dict #[en P "__module__" 566 (.str "drawhouse.parts" 557), en P "__qualname__" 568 (.str "Part" 567), en P "__firstlineno__" 570 (.int 99 569), en P "__init__" 579 (.ref 309), en P "bound" 585 (.ref 314), en P "place_of" 593 (.ref 321), en P "text" 600 (.ref 328), en P "__static_attributes__" 603 (.ref 329)] 8 }
noncomputable def o300 : Obj := { cls := .none, data := .fields #[.int 101 0, .int 4 0, .ref 308, .int 105 0, .int 4 0, .ref 313, .int 109 0, .int 4 0, .ref 320, .int 112 0, .int 4 0, .ref 327] }
noncomputable def o301 : Obj := { cls := .type "code", data := .fields #[.str "Part" 561, .str "Part" 562, .str "/claim/cut.py" 563, .int 99 0, .int 0 0, .int 0 0, .int 0 0, .int 0 0, .ref 299, .bool false, .int 181 0, .ref 300, .none, .none, .none, .none, .int 564 0, .int 99 0, .str "/claim/cut.py" 565] }
noncomputable def o302 : Obj := { cls := .type "frame", slots := #[some (.ref 301), some (.ref 3), some (.ref 298), none, some (.str "drawhouse.parts" 557), none, some (.ref 0)] }
noncomputable def o305 : Obj := tu [.str "self" 574, .str "address" 575, .str "rows" 576]
noncomputable def o307 : Obj := pf ((Mine.clsBody (Mine.top 22)).getD 0 (.Pass ⟨0, 0, 0, 0⟩)) "__init__" "Part.__init__"
noncomputable def o312 : Obj := pf ((Mine.clsBody (Mine.top 22)).getD 1 (.Pass ⟨0, 0, 0, 0⟩)) "bound" "Part.bound"
noncomputable def o317 : Obj := tu [.str "self" 589, .str "name" 590]
noncomputable def o319 : Obj := pf ((Mine.clsBody (Mine.top 22)).getD 2 (.Pass ⟨0, 0, 0, 0⟩)) "place_of" "Part.place_of"
noncomputable def o324 : Obj := tu [.str "self" 597]
noncomputable def o326 : Obj := pf ((Mine.clsBody (Mine.top 22)).getD 3 (.Pass ⟨0, 0, 0, 0⟩)) "text" "Part.text"
noncomputable def o329 : Obj := tu [.str "address" 601, .str "rows" 602]
noncomputable def o334 : Obj := { cls := .type "super", data := .fields #[.ref 331, .ref 331, .ref 331] }
noncomputable def o335 : Obj := { cls := .type "builtin_function_or_method", data := .fields #[.builtin "object.__init_subclass__", .ref 331] }
noncomputable def o337 : Obj := { cls := .type "builtin_function_or_method", data := .fields #[.builtin "type.__prepare__", .type "type"] }
noncomputable def o338 (P : Params) : Obj := { cls := .type "dict", data := .dict #[en P "__module__" 620 (.str "drawhouse.rows" 611), en P "__qualname__" 622 (.str "Row" 621), en P "__firstlineno__" 624 (.int 115 623), en P "binds" 631 (.ref 349), en P "asked" 638 (.ref 356), en P "said" 645 (.ref 363), en P "__static_attributes__" 646 (.ref 364)] 7 }
noncomputable def o340 : Obj := { cls := .none, data := .fields #[.int 117 0, .int 4 0, .ref 348, .int 120 0, .int 4 0, .ref 355, .int 123 0, .int 4 0, .ref 362] }
noncomputable def o341 : Obj := { cls := .type "code", data := .fields #[.str "Row" 615, .str "Row" 616, .str "/claim/cut.py" 617, .int 115 0, .int 0 0, .int 0 0, .int 0 0, .int 0 0, .ref 339, .bool false, .int 181 0, .ref 340, .none, .none, .none, .none, .int 618 0, .int 115 0, .str "/claim/cut.py" 619] }
noncomputable def o342 : Obj := { cls := .type "frame", slots := #[some (.ref 341), some (.ref 3), some (.ref 338), none, some (.str "drawhouse.rows" 611), none, some (.ref 0)] }
noncomputable def o345 : Obj := tu [.str "self" 628]
noncomputable def o347 : Obj := pf ((Mine.clsBody (Mine.top 24)).getD 0 (.Pass ⟨0, 0, 0, 0⟩)) "binds" "Row.binds"
noncomputable def o352 : Obj := tu [.str "self" 635]
noncomputable def o354 : Obj := pf ((Mine.clsBody (Mine.top 24)).getD 1 (.Pass ⟨0, 0, 0, 0⟩)) "asked" "Row.asked"
noncomputable def o359 : Obj := tu [.str "self" 642]
noncomputable def o361 : Obj := pf ((Mine.clsBody (Mine.top 24)).getD 2 (.Pass ⟨0, 0, 0, 0⟩)) "said" "Row.said"
noncomputable def o369 : Obj := { cls := .type "super", data := .fields #[.ref 366, .ref 366, .ref 366] }
noncomputable def o370 : Obj := { cls := .type "builtin_function_or_method", data := .fields #[.builtin "object.__init_subclass__", .ref 366] }
noncomputable def o371 : Obj := tu [.ref 366]
noncomputable def o372 : Obj := { cls := .type "builtin_function_or_method", data := .fields #[.builtin "type.__prepare__", .type "type"] }
noncomputable def o373 (P : Params) : Obj := { cls := .type "dict", data := .dict #[en P "__module__" 661 (.str "drawhouse.rows" 611), en P "__qualname__" 663 (.str "Let" 662), en P "__firstlineno__" 665 (.int 125 664), en P "__init__" 674 (.ref 384), en P "binds" 681 (.ref 391), en P "said" 688 (.ref 398), en P "__static_attributes__" 691 (.ref 399)] 7 }
noncomputable def o375 : Obj := { cls := .none, data := .fields #[.int 127 0, .int 4 0, .ref 383, .int 131 0, .int 4 0, .ref 390, .int 134 0, .int 4 0, .ref 397] }
noncomputable def o376 : Obj := { cls := .type "code", data := .fields #[.str "Let" 656, .str "Let" 657, .str "/claim/cut.py" 658, .int 125 0, .int 0 0, .int 0 0, .int 0 0, .int 0 0, .ref 374, .bool false, .int 181 0, .ref 375, .none, .none, .none, .none, .int 659 0, .int 125 0, .str "/claim/cut.py" 660] }
noncomputable def o377 : Obj := { cls := .type "frame", slots := #[some (.ref 376), some (.ref 3), some (.ref 373), none, some (.str "drawhouse.rows" 611), none, some (.ref 0)] }
noncomputable def o380 : Obj := tu [.str "self" 669, .str "name" 670, .str "terms" 671]
noncomputable def o382 : Obj := pf ((Mine.clsBody (Mine.top 25)).getD 0 (.Pass ⟨0, 0, 0, 0⟩)) "__init__" "Let.__init__"
noncomputable def o387 : Obj := tu [.str "self" 678]
noncomputable def o389 : Obj := pf ((Mine.clsBody (Mine.top 25)).getD 1 (.Pass ⟨0, 0, 0, 0⟩)) "binds" "Let.binds"
noncomputable def o394 : Obj := tu [.str "self" 685]
noncomputable def o396 : Obj := pf ((Mine.clsBody (Mine.top 25)).getD 2 (.Pass ⟨0, 0, 0, 0⟩)) "said" "Let.said"
noncomputable def o399 : Obj := tu [.str "name" 689, .str "terms" 690]
noncomputable def o402 : Obj := { cls := .type "super", data := .fields #[.ref 401, .ref 401, .ref 401] }
noncomputable def o403 : Obj := { cls := .type "builtin_function_or_method", data := .fields #[.builtin "object.__init_subclass__", .ref 401] }
noncomputable def o406 : Obj := tu [.str "_law_script" 700, .str "_law_k" 701]
noncomputable def o408 : Obj := pf (Mine.top 27) "_law_cell" "_law_cell"
noncomputable def o413 : Obj := tu [.str "_law_cell_here" 708, .str "_law_k" 709, .str "_law_many" 710, .str "_law_great" 711, .str "_law_by" 712, .str "_law_one" 713]
noncomputable def o415 : Obj := pf (Mine.top 28) "_law_pick" "_law_pick"
noncomputable def o420 : Obj := pf (Mine.top 29) "_law_words" "_law_words"
noncomputable def o425 : Obj := pf (Mine.top 30) "_law_addresses" "_law_addresses"
noncomputable def o430 : Obj := pf (Mine.top 31) "_law_spoilt" "_law_spoilt"
noncomputable def o435 : Obj := pf (Mine.top 32) "_law_due" "_law_due"
noncomputable def o440 : Obj := tu [.str "_law_e" 744, .str "_law_found" 745]
noncomputable def o442 : Obj := pf (Mine.top 33) "_law_word" "_law_word"
noncomputable def o447 : Obj := pf (Mine.top 34) "_law_told" "_law_told"
noncomputable def o452 : Obj := tu [.str "_law_script" 758, .str "_law_words_here" 759, .str "_law_head" 760, .str "_law_addresses_here" 761, .str "_law_some" 762, .str "_law_k" 763, .str "_law_names" 764, .str "_law_turn" 765]
noncomputable def o454 : Obj := pf (Mine.top 35) "law" "law"
noncomputable def t3x0 (P : Params) : BT := puts (t2 P) ((3, o3 P) :: (12, o12) :: (242, eT) :: (243, o243) :: (244, o244 P) :: (245, eT) :: (246, o246) :: (247, o247) :: (248, o248) :: (249, eT) :: (250, eF) :: (251, o251) :: [])
noncomputable def t3x1 (P : Params) : BT := puts (t3x0 P) ((252, eT) :: (253, o253) :: (254, Mine.k254) :: (255, Mine.k255) :: (256, eT) :: (257, eF) :: (258, o258) :: (259, Mine.k259) :: (260, Mine.k260) :: (261, eT) :: (262, eF) :: (263, o263) :: [])
noncomputable def t3x2 (P : Params) : BT := puts (t3x1 P) ((264, eT) :: (265, o265) :: (266, Mine.k266) :: (267, Mine.k267) :: (268, eT) :: (269, eF) :: (270, o270) :: (271, eT) :: (272, o272) :: (273, Mine.k273) :: (274, Mine.k274) :: (275, eT) :: [])
noncomputable def t3x3 (P : Params) : BT := puts (t3x2 P) ((276, eF) :: (277, o277) :: (278, eT) :: (279, o279) :: (280, Mine.k280) :: (281, Mine.k281) :: (282, eT) :: (283, eF) :: (284, o284) :: (285, eT) :: (286, o286) :: (287, Mine.k287) :: [])
noncomputable def t3x4 (P : Params) : BT := puts (t3x3 P) ((288, Mine.k288) :: (289, o289) :: (290, Mine.k290 P) :: (291, Mine.k291) :: (292, Mine.k292) :: (293, Mine.k293) :: (294, o294) :: (295, o295) :: (296, eT) :: (297, o297) :: (298, o298 P) :: (299, eT) :: [])
noncomputable def t3x5 (P : Params) : BT := puts (t3x4 P) ((300, o300) :: (301, o301) :: (302, o302) :: (303, eT) :: (304, eF) :: (305, o305) :: (306, eT) :: (307, o307) :: (308, Mine.k308) :: (309, Mine.k309) :: (310, eT) :: (311, eF) :: [])
noncomputable def t3x6 (P : Params) : BT := puts (t3x5 P) ((312, o312) :: (313, Mine.k313) :: (314, Mine.k314) :: (315, eT) :: (316, eF) :: (317, o317) :: (318, eT) :: (319, o319) :: (320, Mine.k320) :: (321, Mine.k321) :: (322, eT) :: (323, eF) :: [])
noncomputable def t3x7 (P : Params) : BT := puts (t3x6 P) ((324, o324) :: (325, eT) :: (326, o326) :: (327, Mine.k327) :: (328, Mine.k328) :: (329, o329) :: (330, Mine.k330 P) :: (331, Mine.k331) :: (332, Mine.k332) :: (333, Mine.k333) :: (334, o334) :: (335, o335) :: [])
noncomputable def t3x8 (P : Params) : BT := puts (t3x7 P) ((336, eT) :: (337, o337) :: (338, o338 P) :: (339, eT) :: (340, o340) :: (341, o341) :: (342, o342) :: (343, eT) :: (344, eF) :: (345, o345) :: (346, eT) :: (347, o347) :: [])
noncomputable def t3x9 (P : Params) : BT := puts (t3x8 P) ((348, Mine.k348) :: (349, Mine.k349) :: (350, eT) :: (351, eF) :: (352, o352) :: (353, eT) :: (354, o354) :: (355, Mine.k355) :: (356, Mine.k356) :: (357, eT) :: (358, eF) :: (359, o359) :: [])
noncomputable def t3x10 (P : Params) : BT := puts (t3x9 P) ((360, eT) :: (361, o361) :: (362, Mine.k362) :: (363, Mine.k363) :: (364, eT) :: (365, Mine.k365 P) :: (366, Mine.k366) :: (367, Mine.k367) :: (368, Mine.k368) :: (369, o369) :: (370, o370) :: (371, o371) :: [])
noncomputable def t3x11 (P : Params) : BT := puts (t3x10 P) ((372, o372) :: (373, o373 P) :: (374, eT) :: (375, o375) :: (376, o376) :: (377, o377) :: (378, eT) :: (379, eF) :: (380, o380) :: (381, eT) :: (382, o382) :: (383, Mine.k383) :: [])
noncomputable def t3x12 (P : Params) : BT := puts (t3x11 P) ((384, Mine.k384) :: (385, eT) :: (386, eF) :: (387, o387) :: (388, eT) :: (389, o389) :: (390, Mine.k390) :: (391, Mine.k391) :: (392, eT) :: (393, eF) :: (394, o394) :: (395, eT) :: [])
noncomputable def t3x13 (P : Params) : BT := puts (t3x12 P) ((396, o396) :: (397, Mine.k397) :: (398, Mine.k398) :: (399, o399) :: (400, Mine.k400 P) :: (401, Mine.k401) :: (402, o402) :: (403, o403) :: (404, eT) :: (405, eF) :: (406, o406) :: (407, eT) :: [])
noncomputable def t3x14 (P : Params) : BT := puts (t3x13 P) ((408, o408) :: (409, Mine.k409) :: (410, Mine.k410) :: (411, eT) :: (412, eF) :: (413, o413) :: (414, eT) :: (415, o415) :: (416, Mine.k416) :: (417, Mine.k417) :: (418, eT) :: (419, eF) :: [])
noncomputable def t3x15 (P : Params) : BT := puts (t3x14 P) ((420, o420) :: (421, Mine.k421) :: (422, Mine.k422) :: (423, eT) :: (424, eF) :: (425, o425) :: (426, Mine.k426) :: (427, Mine.k427) :: (428, eT) :: (429, eF) :: (430, o430) :: (431, Mine.k431) :: [])
noncomputable def t3x16 (P : Params) : BT := puts (t3x15 P) ((432, Mine.k432) :: (433, eT) :: (434, eF) :: (435, o435) :: (436, Mine.k436) :: (437, Mine.k437) :: (438, eT) :: (439, eF) :: (440, o440) :: (441, eT) :: (442, o442) :: (443, Mine.k443) :: [])
noncomputable def t3x17 (P : Params) : BT := puts (t3x16 P) ((444, Mine.k444) :: (445, eT) :: (446, eF) :: (447, o447) :: (448, Mine.k448) :: (449, Mine.k449) :: (450, eT) :: (451, eF) :: (452, o452) :: (453, eT) :: (454, o454) :: (455, Mine.k455) :: [])
noncomputable def t3 (P : Params) : BT := puts (t3x17 P) ((456, Mine.k456) :: [])
noncomputable def L2 (w : World) (os : OsState) : Option (Flow × SharedT × Code × Pos) := segRunT treeTable PySem.Challenge.pw_drawhouse_k32_houses_refused w 11 (some (Value.ref 6)) 1 1573 ⟨t2 w.params, nat_lit 242, { }, Array.mk [], { }, nat_lit 489, os⟩ (piecesOf (sl 20 16) env cE { line := 64, col := 0, endLine := 74, endCol := 27 } fr)
noncomputable def R2 (w : World) (os : OsState) : Option (Flow × SharedT × Code × Pos) := some (.next, ⟨t3 w.params, nat_lit 457, { }, Array.mk [], { }, nat_lit 769, os⟩, cE, { line := 239, col := 0, endLine := 254, endCol := 15 })
theorem rL2 : L2 = L2 := rfl
name_quick L2 for Hd.L2 by Hd.rL2
theorem rR2 : R2 = R2 := rfl
name_quick R2 for Hd.R2 by Hd.rR2
theorem q2 : PySem.W.Fast.L2 = PySem.W.Fast.R2 := by kernel_rfl
theorem e2 : L2 = R2 := PySem.W.Fast.L2_eq.trans (q2.trans PySem.W.Fast.R2_eq.symm)
noncomputable def hF0 (P : Params) (r : List Obj) : List Obj := (boot_o_0 P) :: (boot_o_1 P) :: (boot_o_2 P) :: (o3 P) :: (boot_o_4 P) :: (boot_o_5 P) :: (boot_o_6 P) :: (boot_o_7 P) :: (boot_o_8 P) :: (boot_o_9 P) :: (boot_o_10 P) :: eT :: o12 :: o13 :: o14 :: eT :: r
noncomputable def hF16 (P : Params) (r : List Obj) : List Obj := eF :: o17 :: eT :: o19 :: Mine.k20 :: Mine.k21 :: o22 :: o23 :: (o24 P) :: eT :: eF :: o27 :: o28 :: eT :: (Mine.k30 P) :: Mine.k31 :: r
noncomputable def hF32 (P : Params) (r : List Obj) : List Obj := Mine.k32 :: o33 :: o34 :: o35 :: o36 :: (o37 P) :: eT :: eF :: o40 :: o41 :: eT :: (Mine.k43 P) :: Mine.k44 :: o45 :: o46 :: o47 :: r
noncomputable def hF48 (P : Params) (r : List Obj) : List Obj := o48 :: (o49 P) :: eT :: o51 :: o52 :: o53 :: eT :: eF :: o56 :: eT :: o58 :: Mine.k59 :: Mine.k60 :: o61 :: (Mine.k62 P) :: Mine.k63 :: r
noncomputable def hF64 (P : Params) (r : List Obj) : List Obj := o64 :: o65 :: o66 :: o67 :: (o68 P) :: eT :: o70 :: o71 :: o72 :: eT :: eF :: o75 :: eT :: o77 :: Mine.k78 :: Mine.k79 :: r
noncomputable def hF80 (P : Params) (r : List Obj) : List Obj := o80 :: (Mine.k81 P) :: Mine.k82 :: o83 :: o84 :: o85 :: o86 :: (o87 P) :: eT :: o89 :: o90 :: o91 :: eT :: eF :: o94 :: eT :: r
noncomputable def hF96 (P : Params) (r : List Obj) : List Obj := o96 :: Mine.k97 :: Mine.k98 :: o99 :: (Mine.k100 P) :: Mine.k101 :: o102 :: o103 :: o104 :: o105 :: (o106 P) :: eT :: o108 :: o109 :: o110 :: eT :: r
noncomputable def hF112 (P : Params) (r : List Obj) : List Obj := eF :: o113 :: eT :: o115 :: Mine.k116 :: Mine.k117 :: o118 :: (Mine.k119 P) :: Mine.k120 :: o121 :: o122 :: o123 :: o124 :: (o125 P) :: eT :: o127 :: r
noncomputable def hF128 (P : Params) (r : List Obj) : List Obj := o128 :: o129 :: eT :: eF :: o132 :: eT :: o134 :: Mine.k135 :: Mine.k136 :: o137 :: (Mine.k138 P) :: Mine.k139 :: o140 :: o141 :: o142 :: o143 :: r
noncomputable def hF144 (P : Params) (r : List Obj) : List Obj := (o144 P) :: eT :: o146 :: o147 :: o148 :: eT :: eF :: o151 :: eT :: o153 :: Mine.k154 :: Mine.k155 :: o156 :: (Mine.k157 P) :: Mine.k158 :: o159 :: r
noncomputable def hF160 (P : Params) (r : List Obj) : List Obj := o160 :: o161 :: o162 :: (o163 P) :: eT :: o165 :: o166 :: o167 :: eT :: eF :: o170 :: eT :: o172 :: Mine.k173 :: Mine.k174 :: o175 :: r
noncomputable def hF176 (P : Params) (r : List Obj) : List Obj := (Mine.k176 P) :: Mine.k177 :: o178 :: o179 :: o180 :: o181 :: (o182 P) :: eT :: o184 :: o185 :: o186 :: eT :: eF :: o189 :: eT :: o191 :: r
noncomputable def hF192 (P : Params) (r : List Obj) : List Obj := Mine.k192 :: Mine.k193 :: o194 :: (Mine.k195 P) :: Mine.k196 :: o197 :: o198 :: o199 :: o200 :: (o201 P) :: eT :: o203 :: o204 :: o205 :: eT :: eF :: r
noncomputable def hF208 (P : Params) (r : List Obj) : List Obj := o208 :: eT :: o210 :: Mine.k211 :: Mine.k212 :: o213 :: (Mine.k214 P) :: Mine.k215 :: o216 :: o217 :: eT :: eF :: o220 :: eT :: o222 :: Mine.k223 :: r
noncomputable def hF224 (P : Params) (r : List Obj) : List Obj := Mine.k224 :: eT :: eF :: o227 :: eT :: o229 :: Mine.k230 :: Mine.k231 :: eT :: eF :: o234 :: Mine.k235 :: Mine.k236 :: eT :: eF :: o239 :: r
noncomputable def hF240 (P : Params) (r : List Obj) : List Obj := Mine.k240 :: Mine.k241 :: eT :: o243 :: (o244 P) :: eT :: o246 :: o247 :: o248 :: eT :: eF :: o251 :: eT :: o253 :: Mine.k254 :: Mine.k255 :: r
noncomputable def hF256 (P : Params) (r : List Obj) : List Obj := eT :: eF :: o258 :: Mine.k259 :: Mine.k260 :: eT :: eF :: o263 :: eT :: o265 :: Mine.k266 :: Mine.k267 :: eT :: eF :: o270 :: eT :: r
noncomputable def hF272 (P : Params) (r : List Obj) : List Obj := o272 :: Mine.k273 :: Mine.k274 :: eT :: eF :: o277 :: eT :: o279 :: Mine.k280 :: Mine.k281 :: eT :: eF :: o284 :: eT :: o286 :: Mine.k287 :: r
noncomputable def hF288 (P : Params) (r : List Obj) : List Obj := Mine.k288 :: o289 :: (Mine.k290 P) :: Mine.k291 :: Mine.k292 :: Mine.k293 :: o294 :: o295 :: eT :: o297 :: (o298 P) :: eT :: o300 :: o301 :: o302 :: eT :: r
noncomputable def hF304 (P : Params) (r : List Obj) : List Obj := eF :: o305 :: eT :: o307 :: Mine.k308 :: Mine.k309 :: eT :: eF :: o312 :: Mine.k313 :: Mine.k314 :: eT :: eF :: o317 :: eT :: o319 :: r
noncomputable def hF320 (P : Params) (r : List Obj) : List Obj := Mine.k320 :: Mine.k321 :: eT :: eF :: o324 :: eT :: o326 :: Mine.k327 :: Mine.k328 :: o329 :: (Mine.k330 P) :: Mine.k331 :: Mine.k332 :: Mine.k333 :: o334 :: o335 :: r
noncomputable def hF336 (P : Params) (r : List Obj) : List Obj := eT :: o337 :: (o338 P) :: eT :: o340 :: o341 :: o342 :: eT :: eF :: o345 :: eT :: o347 :: Mine.k348 :: Mine.k349 :: eT :: eF :: r
noncomputable def hF352 (P : Params) (r : List Obj) : List Obj := o352 :: eT :: o354 :: Mine.k355 :: Mine.k356 :: eT :: eF :: o359 :: eT :: o361 :: Mine.k362 :: Mine.k363 :: eT :: (Mine.k365 P) :: Mine.k366 :: Mine.k367 :: r
noncomputable def hF368 (P : Params) (r : List Obj) : List Obj := Mine.k368 :: o369 :: o370 :: o371 :: o372 :: (o373 P) :: eT :: o375 :: o376 :: o377 :: eT :: eF :: o380 :: eT :: o382 :: Mine.k383 :: r
noncomputable def hF384 (P : Params) (r : List Obj) : List Obj := Mine.k384 :: eT :: eF :: o387 :: eT :: o389 :: Mine.k390 :: Mine.k391 :: eT :: eF :: o394 :: eT :: o396 :: Mine.k397 :: Mine.k398 :: o399 :: r
noncomputable def hF400 (P : Params) (r : List Obj) : List Obj := (Mine.k400 P) :: Mine.k401 :: o402 :: o403 :: eT :: eF :: o406 :: eT :: o408 :: Mine.k409 :: Mine.k410 :: eT :: eF :: o413 :: eT :: o415 :: r
noncomputable def hF416 (P : Params) (r : List Obj) : List Obj := Mine.k416 :: Mine.k417 :: eT :: eF :: o420 :: Mine.k421 :: Mine.k422 :: eT :: eF :: o425 :: Mine.k426 :: Mine.k427 :: eT :: eF :: o430 :: Mine.k431 :: r
noncomputable def hF432 (P : Params) (r : List Obj) : List Obj := Mine.k432 :: eT :: eF :: o435 :: Mine.k436 :: Mine.k437 :: eT :: eF :: o440 :: eT :: o442 :: Mine.k443 :: Mine.k444 :: eT :: eF :: o447 :: r
noncomputable def hF448 (P : Params) (r : List Obj) : List Obj := Mine.k448 :: Mine.k449 :: eT :: eF :: o452 :: eT :: o454 :: Mine.k455 :: Mine.k456 :: r
noncomputable def hF (P : Params) : Heap := ⟨Array.mk (hF0 P (hF16 P (hF32 P (hF48 P (hF64 P (hF80 P (hF96 P (hF112 P (hF128 P (hF144 P (hF160 P (hF176 P (hF192 P (hF208 P (hF224 P (hF240 P (hF256 P (hF272 P (hF288 P (hF304 P (hF320 P (hF336 P (hF352 P (hF368 P (hF384 P (hF400 P (hF416 P (hF432 P (hF448 P ([])))))))))))))))))))))))))))))), { }⟩
noncomputable def Lf (w : World) (os : OsState) : Option Shared := topRun treeTable PySem.Challenge.pw_drawhouse_k32_houses_refused w 11 (some (Value.ref 6)) 2 (SharedT.abs ⟨t3 w.params, nat_lit 457, { }, Array.mk [], { }, nat_lit 769, os⟩) ⟨doneF .next, cE, { line := 239, col := 0, endLine := 254, endCol := 15 }, fr⟩
noncomputable def Rf (w : World) (os : OsState) : Option Shared := some ⟨hF w.params, Array.mk [], { }, nat_lit 769, os⟩
theorem rLf : Lf = Lf := rfl
name_quick Lf for Hd.Lf by Hd.rLf
theorem rRf : Rf = Rf := rfl
name_quick Rf for Hd.Rf by Hd.rRf
theorem qf : PySem.W.Fast.Lf = PySem.W.Fast.Rf := by kernel_rfl
theorem ef : Lf = Rf := PySem.W.Fast.Lf_eq.trans (qf.trans PySem.W.Fast.Rf_eq.symm)
theorem ed : (behindTheImports PySem.Challenge.pw_drawhouse_k32_houses_refused).drop 36 = [] := by kernel_rfl
theorem pd {w : World} {k m n N : Nat} {s s' r : Shared} {c : Code} {pos p' : Pos} (h : segRun treeTable PySem.Challenge.pw_drawhouse_k32_houses_refused w 11 (some (Value.ref 6)) 1 n s (piecesOf (sl k m) env c pos fr) = some (.next, s', c, p'))
    (k2 : topRun treeTable PySem.Challenge.pw_drawhouse_k32_houses_refused w 11 (some (Value.ref 6)) N s' (restOf ((behindTheImports PySem.Challenge.pw_drawhouse_k32_houses_refused).drop (k + m)) env c p' fr) = some r) : topRun treeTable PySem.Challenge.pw_drawhouse_k32_houses_refused w 11 (some (Value.ref 6)) (n + N) s (restOf ((behindTheImports PySem.Challenge.pw_drawhouse_k32_houses_refused).drop k) env c pos fr) = some r := by
  have z := piece_app h k2
  have e : sl k m ++ (behindTheImports PySem.Challenge.pw_drawhouse_k32_houses_refused).drop (k + m) = (behindTheImports PySem.Challenge.pw_drawhouse_k32_houses_refused).drop k := by
    unfold sl
    rw [← List.drop_drop]
    exact List.take_append_drop m _
  rwa [e] at z
theorem run (w : World) (os : OsState) : topRun treeTable PySem.Challenge.pw_drawhouse_k32_houses_refused w 11 (some (Value.ref 6)) (12 + (1 + (1418 + (1365 + (1573 + (2)))))) ⟨boot_heap w.params, Array.mk [], boot_drawn, boot_toks, os⟩ (topStub PySem.Challenge.pw_drawhouse_k32_houses_refused) = some ⟨hF w.params, Array.mk [], { }, nat_lit 769, os⟩ :=
  go_top (congrFun (congrFun ep w) os) (piece_block (congrFun (congrFun eb w) os)
    (pd (k := 0) (m := 8) (segRun_of (congrFun (congrFun e0 w) os))
    (pd (k := 8) (m := 12) (segRun_of (congrFun (congrFun e1 w) os))
    (pd (k := 20) (m := 16) (segRun_of (congrFun (congrFun e2 w) os))
    (by rw [show 20 + 16 = 36 from rfl, ed]; exact piece_nil (congrFun (congrFun ef w) os))))))
noncomputable def qv : Program := { PySem.Challenge.pw_drawhouse_k32_houses_refused with main := { PySem.Challenge.pw_drawhouse_k32_houses_refused.main with body := (0 :: 2 :: 3 :: 4 :: 5 :: 6 :: 7 :: 8 :: 9 :: 10 :: 11 :: 12 :: 14 :: 16 :: 17 :: 18 :: 19 :: 20 :: 22 :: 24 :: 25 :: 27 :: 28 :: 29 :: 30 :: 31 :: 32 :: 33 :: 34 :: 35 :: []).filterMap fun i => PySem.Challenge.pw_drawhouse_k32_houses_refused.main.body[i]? } }
noncomputable def loose : List Str := []
noncomputable def lv : List (Str × WData) := []
noncomputable def xt (s : Shared) : Bool := xlAt qv lv s && recOk (RowW.records (OpenRow.toRowW (OpenLaw.row PySem.Challenge.rw_drawhouse_k32_houses_refused))) s
noncomputable def as : List Addr := nat_lit 2 :: nat_lit 3 :: nat_lit 20 :: nat_lit 21 :: nat_lit 30 :: nat_lit 31 :: nat_lit 32 :: nat_lit 43 :: nat_lit 44 :: nat_lit 59 :: nat_lit 60 :: nat_lit 62 :: nat_lit 63 :: nat_lit 78 :: nat_lit 79 :: nat_lit 81 :: nat_lit 82 :: nat_lit 97 :: nat_lit 98 :: nat_lit 100 :: nat_lit 101 :: nat_lit 116 :: nat_lit 117 :: nat_lit 119 :: nat_lit 120 :: nat_lit 135 :: nat_lit 136 :: nat_lit 138 :: nat_lit 139 :: nat_lit 154 :: nat_lit 155 :: nat_lit 157 :: nat_lit 158 :: nat_lit 173 :: nat_lit 174 :: nat_lit 176 :: nat_lit 177 :: nat_lit 192 :: nat_lit 193 :: nat_lit 195 :: nat_lit 196 :: nat_lit 211 :: nat_lit 212 :: nat_lit 214 :: nat_lit 215 :: nat_lit 223 :: nat_lit 224 :: nat_lit 230 :: nat_lit 231 :: nat_lit 235 :: nat_lit 236 :: nat_lit 240 :: nat_lit 241 :: nat_lit 254 :: nat_lit 255 :: nat_lit 259 :: nat_lit 260 :: nat_lit 266 :: nat_lit 267 :: nat_lit 273 :: nat_lit 274 :: nat_lit 280 :: nat_lit 281 :: nat_lit 287 :: nat_lit 288 :: nat_lit 290 :: nat_lit 291 :: nat_lit 292 :: nat_lit 293 :: nat_lit 308 :: nat_lit 309 :: nat_lit 313 :: nat_lit 314 :: nat_lit 320 :: nat_lit 321 :: nat_lit 327 :: nat_lit 328 :: nat_lit 330 :: nat_lit 331 :: nat_lit 332 :: nat_lit 333 :: nat_lit 348 :: nat_lit 349 :: nat_lit 355 :: nat_lit 356 :: nat_lit 362 :: nat_lit 363 :: nat_lit 365 :: nat_lit 366 :: nat_lit 367 :: nat_lit 368 :: nat_lit 383 :: nat_lit 384 :: nat_lit 390 :: nat_lit 391 :: nat_lit 397 :: nat_lit 398 :: nat_lit 400 :: nat_lit 401 :: nat_lit 409 :: nat_lit 410 :: nat_lit 416 :: nat_lit 417 :: nat_lit 421 :: nat_lit 422 :: nat_lit 426 :: nat_lit 427 :: nat_lit 431 :: nat_lit 432 :: nat_lit 436 :: nat_lit 437 :: nat_lit 443 :: nat_lit 444 :: nat_lit 448 :: nat_lit 449 :: nat_lit 455 :: nat_lit 456 :: []
theorem ke (P : Params) : as = (Mine.myK P).map (·.1) := by kernel_rfl
noncomputable def Ls (w : World) : Bool × Nat × Option Value := ((boot_heap w.params).isNs mainGlobals && (Array.mk [] : Array GenState).size == 0, (boot_heap w.params).objs.size, (boot_heap w.params).nsMap mainGlobals "__annotations__")
noncomputable def Rs (w : World) : Bool × Nat × Option Value := (true, 11, some (Value.ref 6))
theorem es : Ls = Rs := by kernel_rfl
noncomputable def Lk0 (w : World) (os : OsState) : Bool := staticsOk (importedModules PySem.Challenge.pw_drawhouse_k32_houses_refused.main.body) (boot_heap w.params) (hF w.params) && namesBound PySem.Challenge.pw_drawhouse_k32_houses_refused (hF w.params) && gensDone ⟨hF w.params, Array.mk [], { }, nat_lit 769, os⟩ && laidKept (boot_heap w.params) (hF w.params)
noncomputable def Rk0 (_ : World) (_ : OsState) : Bool := true
theorem rLk0 : Lk0 = Lk0 := rfl
name_quick Lk0 for Hd.Lk0 by Hd.rLk0
theorem qk0 : PySem.W.Fast.Lk0 = Rk0 := by kernel_rfl
theorem ek0 : Lk0 = Rk0 := PySem.W.Fast.Lk0_eq.trans qk0
noncomputable def Lk1 (w : World) (os : OsState) := (openSeen qv loose (importedModules PySem.Challenge.pw_drawhouse_k32_houses_refused.main.body) xt true ⟨hF w.params, Array.mk [], { }, nat_lit 769, os⟩).1
noncomputable def Rk1 (_ : World) (_ : OsState) := (openGood qv loose).1
theorem rLk1 : Lk1 = Lk1 := rfl
name_quick Lk1 for Hd.Lk1 by Hd.rLk1
theorem rRk1 : Rk1 = Rk1 := rfl
name_quick Rk1 for Hd.Rk1 by Hd.rRk1
theorem qk1 : PySem.W.Fast.Lk1 = PySem.W.Fast.Rk1 := by kernel_rfl
theorem ek1 : Lk1 = Rk1 := PySem.W.Fast.Lk1_eq.trans (qk1.trans PySem.W.Fast.Rk1_eq.symm)
noncomputable def Lk2 (w : World) (os : OsState) := (openSeen qv loose (importedModules PySem.Challenge.pw_drawhouse_k32_houses_refused.main.body) xt true ⟨hF w.params, Array.mk [], { }, nat_lit 769, os⟩).2.1
noncomputable def Rk2 (_ : World) (_ : OsState) := (openGood qv loose).2.1
theorem rLk2 : Lk2 = Lk2 := rfl
name_quick Lk2 for Hd.Lk2 by Hd.rLk2
theorem qk2 : PySem.W.Fast.Lk2 = Rk2 := by kernel_rfl
theorem ek2 : Lk2 = Rk2 := PySem.W.Fast.Lk2_eq.trans qk2
noncomputable def Lk3 (w : World) (os : OsState) := (openSeen qv loose (importedModules PySem.Challenge.pw_drawhouse_k32_houses_refused.main.body) xt true ⟨hF w.params, Array.mk [], { }, nat_lit 769, os⟩).2.2.1
noncomputable def Rk3 (_ : World) (_ : OsState) := (openGood qv loose).2.2.1
theorem rLk3 : Lk3 = Lk3 := rfl
name_quick Lk3 for Hd.Lk3 by Hd.rLk3
theorem qk3 : PySem.W.Fast.Lk3 = Rk3 := by kernel_rfl
theorem ek3 : Lk3 = Rk3 := PySem.W.Fast.Lk3_eq.trans qk3
noncomputable def Lk4 (w : World) (os : OsState) := (openSeen qv loose (importedModules PySem.Challenge.pw_drawhouse_k32_houses_refused.main.body) xt true ⟨hF w.params, Array.mk [], { }, nat_lit 769, os⟩).2.2.2.1
noncomputable def Rk4 (_ : World) (_ : OsState) := (openGood qv loose).2.2.2.1
theorem rLk4 : Lk4 = Lk4 := rfl
name_quick Lk4 for Hd.Lk4 by Hd.rLk4
theorem qk4 : PySem.W.Fast.Lk4 = Rk4 := by kernel_rfl
theorem ek4 : Lk4 = Rk4 := PySem.W.Fast.Lk4_eq.trans qk4
noncomputable def Lk5 (w : World) (os : OsState) := (openSeen qv loose (importedModules PySem.Challenge.pw_drawhouse_k32_houses_refused.main.body) xt true ⟨hF w.params, Array.mk [], { }, nat_lit 769, os⟩).2.2.2.2.1
noncomputable def Rk5 (_ : World) (_ : OsState) := (openGood qv loose).2.2.2.2.1
theorem rLk5 : Lk5 = Lk5 := rfl
name_quick Lk5 for Hd.Lk5 by Hd.rLk5
theorem rRk5 : Rk5 = Rk5 := rfl
name_quick Rk5 for Hd.Rk5 by Hd.rRk5
theorem qk5 : PySem.W.Fast.Lk5 = PySem.W.Fast.Rk5 := by kernel_rfl
theorem ek5 : Lk5 = Rk5 := PySem.W.Fast.Lk5_eq.trans (qk5.trans PySem.W.Fast.Rk5_eq.symm)
noncomputable def Lk6 (w : World) (os : OsState) := (openSeen qv loose (importedModules PySem.Challenge.pw_drawhouse_k32_houses_refused.main.body) xt true ⟨hF w.params, Array.mk [], { }, nat_lit 769, os⟩).2.2.2.2.2.1
noncomputable def Rk6 (_ : World) (_ : OsState) := (openGood qv loose).2.2.2.2.2.1
theorem rLk6 : Lk6 = Lk6 := rfl
name_quick Lk6 for Hd.Lk6 by Hd.rLk6
theorem rRk6 : Rk6 = Rk6 := rfl
name_quick Rk6 for Hd.Rk6 by Hd.rRk6
theorem qk6 : PySem.W.Fast.Lk6 = PySem.W.Fast.Rk6 := by kernel_rfl
theorem ek6 : Lk6 = Rk6 := PySem.W.Fast.Lk6_eq.trans (qk6.trans PySem.W.Fast.Rk6_eq.symm)
noncomputable def Lk7 (w : World) (os : OsState) := (openSeen qv loose (importedModules PySem.Challenge.pw_drawhouse_k32_houses_refused.main.body) xt true ⟨hF w.params, Array.mk [], { }, nat_lit 769, os⟩).2.2.2.2.2.2.1
noncomputable def Rk7 (_ : World) (_ : OsState) := (openGood qv loose).2.2.2.2.2.2.1
theorem rLk7 : Lk7 = Lk7 := rfl
name_quick Lk7 for Hd.Lk7 by Hd.rLk7
theorem rRk7 : Rk7 = Rk7 := rfl
name_quick Rk7 for Hd.Rk7 by Hd.rRk7
theorem qk7 : PySem.W.Fast.Lk7 = PySem.W.Fast.Rk7 := by kernel_rfl
theorem ek7 : Lk7 = Rk7 := PySem.W.Fast.Lk7_eq.trans (qk7.trans PySem.W.Fast.Rk7_eq.symm)
noncomputable def Lk8 (w : World) (os : OsState) := (openSeen qv loose (importedModules PySem.Challenge.pw_drawhouse_k32_houses_refused.main.body) xt true ⟨hF w.params, Array.mk [], { }, nat_lit 769, os⟩).2.2.2.2.2.2.2.1
noncomputable def Rk8 (_ : World) (_ : OsState) := (openGood qv loose).2.2.2.2.2.2.2.1
theorem rLk8 : Lk8 = Lk8 := rfl
name_quick Lk8 for Hd.Lk8 by Hd.rLk8
theorem rRk8 : Rk8 = Rk8 := rfl
name_quick Rk8 for Hd.Rk8 by Hd.rRk8
theorem qk8 : PySem.W.Fast.Lk8 = PySem.W.Fast.Rk8 := by kernel_rfl
theorem ek8 : Lk8 = Rk8 := PySem.W.Fast.Lk8_eq.trans (qk8.trans PySem.W.Fast.Rk8_eq.symm)
noncomputable def Lk9 (w : World) (os : OsState) := (openSeen qv loose (importedModules PySem.Challenge.pw_drawhouse_k32_houses_refused.main.body) xt true ⟨hF w.params, Array.mk [], { }, nat_lit 769, os⟩).2.2.2.2.2.2.2.2
noncomputable def Rk9 (_ : World) (_ : OsState) := (openGood qv loose).2.2.2.2.2.2.2.2
theorem rLk9 : Lk9 = Lk9 := rfl
name_quick Lk9 for Hd.Lk9 by Hd.rLk9
theorem rRk9 : Rk9 = Rk9 := rfl
name_quick Rk9 for Hd.Rk9 by Hd.rRk9
theorem qk9 : PySem.W.Fast.Lk9 = PySem.W.Fast.Rk9 := by kernel_rfl
theorem ek9 : Lk9 = Rk9 := PySem.W.Fast.Lk9_eq.trans (qk9.trans PySem.W.Fast.Rk9_eq.symm)
noncomputable def Lk10 (w : World) (_ : OsState) : List (Option Obj) := as.map (hF w.params).get?
noncomputable def Rk10 (w : World) (_ : OsState) : List (Option Obj) := (Mine.myK w.params).map fun p => some p.2
theorem ek10 : Lk10 = Rk10 := by kernel_rfl
theorem c {α : Type} {f g : World → OsState → α} (h : f = g) {w : World} {os : OsState} : f w os = g w os := h ▸ rfl
theorem ek (w : World) : (fun os => ((staticsOk (importedModules PySem.Challenge.pw_drawhouse_k32_houses_refused.main.body) (boot_heap w.params) (hF w.params) && namesBound PySem.Challenge.pw_drawhouse_k32_houses_refused (hF w.params) && gensDone ⟨hF w.params, Array.mk [], { }, nat_lit 769, os⟩ && laidKept (boot_heap w.params) (hF w.params)), openSeen qv loose (importedModules PySem.Challenge.pw_drawhouse_k32_houses_refused.main.body) xt true ⟨hF w.params, Array.mk [], { }, nat_lit 769, os⟩, Hook.obs (kHook Mine.myK as ke) ⟨hF w.params, Array.mk [], { }, nat_lit 769, os⟩)) = fun _ => (true, openGood qv loose, Hook.val (kHook Mine.myK as ke) w) :=
  funext fun os => Prod.ext (congrFun (congrFun ek0 w) os) (Prod.ext (Prod.ext (c ek1) (Prod.ext (c ek2) (Prod.ext (c ek3) (Prod.ext (c ek4) (Prod.ext (c ek5) (Prod.ext (c ek6) (Prod.ext (c ek7) (Prod.ext (c ek8) (c ek9))))))))) (congrFun (congrFun ek10 w) os))
theorem op : opening PySem.Challenge.pw_drawhouse_k32_houses_refused = plainProg PySem.Challenge.pw_drawhouse_k32_houses_refused.main.scope.names := by kernel_rfl
theorem fn (s : Shared) : fenceModules? PySem.Challenge.pw_drawhouse_k32_houses_refused s = some s := by kernel_rfl
theorem left : LeftO PySem.Challenge.pw_drawhouse_k32_houses_refused qv loose xt (Hook.obs (kHook Mine.myK as ke)) (Hook.val (kHook Mine.myK as ke)) 8832 true := by
  refine LeftO.of_pieces (boot_open op rfl fn) (congrFun es) run rfl ek
end Hd
open PySem PySem.W PyProof.Rows
set_option maxRecDepth 100000 in
set_option maxHeartbeats 0 in
theorem PySem.Challenge.cw_drawhouse_k32_houses_refused_holds : PySem.Challenge.rw_drawhouse_k32_houses_refused.Holds := by
  w_on; o_law
  refine holds_open (r := OpenLaw.row PySem.Challenge.rw_drawhouse_k32_houses_refused) (q := Hd.qv) (loose := Hd.loose) (Xt := Hd.xt) (XP := XL Hd.qv Hd.lv) (Yf := Hook.obs (kHook Mine.myK Hd.as Hd.ke)) (Ya := Hook.val (kHook Mine.myK Hd.as Hd.ke))
    (YP := Hook.says (kHook Mine.myK Hd.as Hd.ke)) Hd.left (Hook.of (kHook Mine.myK Hd.as Hd.ke)) (Hook.keeps (kHook Mine.myK Hd.as Hd.ke)) (fun s e => xl_of s (Bool.and_eq_true_iff.mp e).1) XL.keeps (by rfl) (by rfl) (by rfl)
    (fun s e => recFacts_of (Bool.and_eq_true_iff.mp e).2) rfl (by assumption) (by decide +kernel) ⟨rfl, rfl, rfl, rfl, rfl, by decide +kernel⟩ ?hw ?hc
  (case hw => w_witness2)
  k_fill
  refine Mine.walk (l := PySem.Challenge.rw_drawhouse_k32_houses_refused) rfl rfl (fun w h Y => PySem.W.kIn_of Y) ?F
  case F =>
    intro w mg fa h KX G hmg
    refine' Mine.all_mk KX G hmg (Mine.fi ?_ ?_ ?_ ?_) (Mine.fi ?_ ?_ ?_ ?_) (Mine.fi ?_ ?_ ?_ ?_) (Mine.fi ?_ ?_ ?_ ?_) (Mine.fi ?_ ?_ ?_ ?_) (Mine.fi ?_ ?_ ?_ ?_) (Mine.fi ?_ ?_ ?_ ?_) (Mine.fi ?_ ?_ ?_ ?_) (Mine.fi ?_ ?_ ?_ ?_) (Mine.fi ?_ ?_ ?_ ?_) (Mine.fi ?_ ?_ ?_ ?_) (Mine.fi ?_ ?_ ?_ ?_) (Mine.fi ?_ ?_ ?_ ?_) ⟨?_, ?_, ?_, ?_, ?_, ?_, ?_, ?_, ?_, ?_, ?_⟩ ⟨?_, ?_, ?_, ?_, ?_, ?_, ?_, ?_, ?_, ?_, ?_⟩ ⟨?_, ?_, ?_, ?_, ?_, ?_, ?_, ?_, ?_, ?_, ?_⟩ ?_ ?_ ?_ ?_ ?_ ?_ (Mine.mi ?_ ?_ ?_ ?_) ?_ (Mine.mi ?_ ?_ ?_ ?_) ?_ (Mine.mi ?_ ?_ ?_ ?_) ?_ (Mine.mi ?_ ?_ ?_ ?_) ?_ (Mine.mi ?_ ?_ ?_ ?_) ?_ (Mine.mi ?_ ?_ ?_ ?_) ?_ ?_ ⟨?_, (Mine.cl_at ?_), ?_, ?_, ?_, ?_, ?_, ?_, ?_⟩ (Mine.mi ?_ ?_ ?_ ?_) ⟨?_, (Mine.cl_at ?_), ?_, ?_, ?_, ?_, ?_, ?_, ?_⟩ (Mine.mi ?_ ?_ ?_ ?_) ⟨?_, (Mine.cl_at ?_), ?_, ?_, ?_, ?_, ?_, ?_, ?_⟩ (Mine.mi ?_ ?_ ?_ ?_) ⟨?_, (Mine.cl_at ?_), ?_, ?_, ?_, ?_, ?_, ?_, ?_⟩ (Mine.mi ?_ ?_ ?_ ?_) ?_ (Mine.cl_at ?_) ?_ (Mine.cl_at ?_) ?_ (Mine.cl_at ?_) ?_ (Mine.cl_at ?_) ?_ (Mine.cl_at ?_) ?_ (Mine.cl_at ?_) ?_ ?_ ?_ ?_ ?uSK ?uNI ?uND ?_ ?_ ?_ ?_ ?_ ?_ ?_ ?_ ?_ ?_ ?_ ?_ ?_ ?_ ?_ ?_ ?_ ?_ ?_ ?_
    any_goals k_is
    (case uSK => rfl); (case uNI => rfl); (case uND => decide)
#print axioms PySem.Challenge.cw_drawhouse_k32_houses_refused_holds
