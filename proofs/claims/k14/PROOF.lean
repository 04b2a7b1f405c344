import PyProof.Rows.All
import Wide.All
import OpenK.AllK
import Wide.FinOn
import Lean
import PyProof.EqAt
import PyProof.EqKinds
import PyProof.TupleCall
import KE.KIntText
import PyProof.ZipIter
import PyProof.EnumFor
import PyProof.EnumMake
import PyProof.ExcClass3
import PyProof.ExcFactsAll.ValueError
import PyProof.ExcArgs
import PyProof.InstStoreFacts
import PyProof.ExcBaseAll.ValueError
import PyProof.Rows.FStr
import KE.KRevSl
import KE.KDictSum
import PyProof.NeKinds
import PyProof.MinMaxWalk
import PySem.Challenge.RW_drawhouse_k14_no_expressions
set_option Elab.async false
set_option linter.all false
set_option maxRecDepth 100000
namespace L2
open PySem PySem.Spec PyProof.Rows
noncomputable def HS (A : Around) (h : Heap) : Prop := A.handled = none ∨ ∃ d od vd, A.handled = some (.ref d) ∧ h.get? d = some od ∧ od.data = .fields vd ∧ vd[2]? = some .none
theorem HS.on {A : Around} {h h' : Heap} (x : HS A h) (k : ∀ b o, h.get? b = some o → h'.get? b = some o) : HS A h' := by
  rcases x with x | ⟨d, od, vd, x, y, z⟩
  · exact .inl x
  · exact .inr ⟨d, od, vd, x, k _ _ y, z⟩
theorem HS.in1 {A : Around} {h : Heap} (x : HS A h) : HS A.in1 h := x
theorem entry_unch : entryFor table "proto.unchain" = some Builtin.«proto.unchain» := entryFor_of_fast (by kernel_rfl)
section
variable {P : Program} {w : World} {A : Around} {E : Value → Shared → Prop} {s : Shared}
theorem raise_some {α : Type} {e d : Addr} {oe od : Obj} {ve vd : Array Value} {Q : α → Shared → Prop} (hh : A.handled = some (.ref d)) (hne : d ≠ e)
    (he : s.heap.get? e = some oe) (hde : oe.data = .fields ve) (h2e : 2 < ve.size) (hd : s.heap.get? d = some od) (hdd : od.data = .fields vd) (h2 : vd[2]? = some .none)
    (h : E (.ref e) { s with heap := s.heap.update e (Obj.mapFields (·.setIfInBounds 2 (.ref d))) }) : wpAny (model P w) A (raiseNew (.ref e) : Sem α) Q E s := by
  unfold raiseNew
  refine wpAny_bind (wpAny_handled ?_)
  rw [hh]
  dsimp only
  rw [if_pos (by simpa using hne)]
  refine wpAny_bind (wpAny_holding (wpAny_runValue (codeAny_builtin entry_unch ?_)))
  unfold Builtin.«proto.unchain»
  dsimp only
  refine wpAny_bind (wpAny_field hd hdd h2 ?_)
  rw [if_pos (by rfl)]
  refine wpAny_bind (wpAny_pure (wpAny_pure ?_))
  refine wpAny_bind (wpAny_mono (wpAny_setField (i := 2) (x := .ref d) he hde h2e ?_ : wpAny _ _ (setField (.ref e) 2 (.ref d)) (fun _ s' => s' = { s with heap := s.heap.update e (Obj.mapFields (·.setIfInBounds 2 (.ref d))) }) _ s) (fun _ s' z => ?_) fun _ _ z => z)
  · rfl
  · subst z
    exact wpAny_throw h
theorem raise_end {α : Type} {Q : α → Shared → Prop} (hh : HS A s.heap)
    (h : ∀ h' e, (∀ b o, s.heap.get? b = some o → h'.get? b = some o) → (∃ o, h'.get? e = some o ∧ o.cls = .type "StopIteration") → E (.ref e) { s with heap := h' }) :
    wpAny (model P w) A (newExc (.type "StopIteration") [] >>= fun e => (raiseNew e : Sem α)) Q E s := by
  refine wpAny_bind ?_
  simp only [newExc, newTuple]
  refine wpAny_bind (wpAny_newObj_type ?_ (by size_fits))
  refine wpAny_bind (m := firstArgMember _ _) (wpAny_of_eq (a := Value.none) (by first | rfl | (simp only [firstArgMember]; rfl)) ?_)
  refine wpAny_newObj_type ?_ (by size_fits)
  rcases hh with hh | ⟨d, od, vd, hh, hd, hdd, h2⟩
  · refine wpAny_raiseNew_none hh (h _ _ (fun b o e => Heap.get?_push_of_some _ (Heap.get?_push_of_some _ e)) ⟨_, Heap.get?_push_size _ rfl, rfl⟩)
  · have hlt := Heap.lt_size hd
    refine raise_some hh (fun z => ?_) (Heap.get?_push_size _ rfl) rfl (by simp; omega) (Heap.get?_push_of_some _ (Heap.get?_push_of_some _ hd)) hdd h2 (h _ _ (fun b o e => ?_) ?_)
    · rw [Heap.size_push] at z
      rw [z] at hlt
      exact absurd hlt (Nat.not_lt.mpr (Nat.le_succ _))
    · rw [Heap.get?_update_other _ _ (by rw [Heap.size_push]; exact Nat.ne_of_gt (Nat.lt_succ_of_lt (Heap.lt_size e)))]
      exact Heap.get?_push_of_some _ (Heap.get?_push_of_some _ e)
    · exact ⟨_, Heap.get?_update_self _ (Heap.get?_push_size _ rfl) (Obj.isFreed_of_fields (Obj.data_mapFields rfl _)), Obj.cls_mapFields ..⟩
theorem HS.upd {it : Addr} {h : Heap} {f : Obj → Obj} (hh : HS A h) (hne : ∀ d, A.handled = some (.ref d) → d ≠ it) : HS A (h.update it f) := by
  rcases hh with x | ⟨d, od, vd, x, y, z⟩
  · exact .inl x
  · exact .inr ⟨d, od, vd, x, by rw [Heap.get?_update_other _ _ (hne d x).symm]; exact y, z⟩
theorem end_list {it l : Addr} {i : Nat} {items : Array Value} {Q : Option Value → Shared → Prop} (hh : HS A s.heap) (hit : s.heap.IsListIter it l i) (hl : s.heap.IsList l items) (hx : items[i]? = none) (hne : ∀ d, A.handled = some (.ref d) → d ≠ it)
    (hQ : ∀ h', Heap.ExtBut it s.heap h' → Q none { s with heap := h' }) : wpAny (model P w) A (pyNext (.ref it)) Q E s := by
  obtain ⟨o, ho, hc, hd⟩ := id hit
  obtain ⟨ol, hol, _, nl, hdl⟩ := hl
  unfold pyNext
  refine wpAny_bind (wpAny_attempt (wpAny_callSpecial?_slot hit.typeIs slot_listiter_next (wpAny_call_entry slot_listiter_next hit.typeIs entry_listiter_next ?_ (args_listiter_next _))))
  refine wpAny_bind (m := field (.ref it) 0) (wpAny_field ho hd (x := .ref l) rfl ?_)
  rw [if_neg (show ¬ ((Value.ref l == Value.none) = true) from Bool.false_ne_true)]
  refine wpAny_bind (m := field (.ref it) 1) (wpAny_field ho hd (x := .int i 0) rfl (wpAny_bind (m := seqItems? (.ref l)) (wpAny_seqItems hol hdl ?_)))
  simp only [Int.toNat_natCast, hx]
  refine wpAny_bind (wpAny_rule (wpAny_bind (wpAny_setField ho hd (by simp) ?_)))
  refine raise_end (A := A.in1) (HS.upd hh hne) fun h' e k ⟨o', ho', hc'⟩ => ?_
  refine wpAny_bind (wpAny_isInstance (T := "StopIteration") (b := true) ⟨_, ho', hc'⟩ isSubtype_stop ?_)
  exact wpAny_pure (hQ _ fun b o hb e => k _ _ (by rw [Heap.get?_update_other _ _ hb.symm]; exact e))
theorem end_ascii {it : Addr} {x : Str} {t : Tok} {i : Nat} {Q : Option Value → Shared → Prop} (hh : HS A s.heap) (hit : s.heap.IsStrIter it "str_ascii_iterator" x t i) (hx : x.cps[i]? = none) (hne : ∀ d, A.handled = some (.ref d) → d ≠ it)
    (hQ : ∀ h', Heap.ExtBut it s.heap h' → Q none { s with heap := h' }) : wpAny (model P w) A (pyNext (.ref it)) Q E s := by
  obtain ⟨o, ho, hc, hd⟩ := id hit
  unfold pyNext
  refine wpAny_bind (wpAny_attempt (wpAny_callSpecial?_slot hit.typeIs F.slot_str_ascii_iterator_next (wpAny_call_entry F.slot_str_ascii_iterator_next hit.typeIs F.entry_str_ascii_iterator_next ?_ (F.args_str_ascii_iterator_next_1 _))))
  refine wpAny_bind (m := field (.ref it) 0) (wpAny_field ho hd (x := .str x t) rfl (wpAny_bind (m := field (.ref it) 1) (wpAny_field ho hd (x := .int i 0) rfl ?_)))
  simp only [Int.toNat_natCast, hx]
  refine wpAny_bind (wpAny_rule (wpAny_bind (wpAny_setField ho hd (by simp) (wpAny_bind (wpAny_letGo ?_)))))
  refine raise_end (A := A.in1) (HS.upd hh hne) fun h' e k ⟨o', ho', hc'⟩ => ?_
  refine wpAny_bind (wpAny_isInstance (T := "StopIteration") (b := true) ⟨_, ho', hc'⟩ isSubtype_stop ?_)
  exact wpAny_pure (hQ _ fun b o hb e => k _ _ (by rw [Heap.get?_update_other _ _ hb.symm]; exact e))
theorem end_wide {it : Addr} {x : Str} {t : Tok} {i : Nat} {Q : Option Value → Shared → Prop} (hh : HS A s.heap) (hit : s.heap.IsStrIter it "str_iterator" x t i) (hx : x.cps[i]? = none) (hne : ∀ d, A.handled = some (.ref d) → d ≠ it)
    (hQ : ∀ h', Heap.ExtBut it s.heap h' → Q none { s with heap := h' }) : wpAny (model P w) A (pyNext (.ref it)) Q E s := by
  obtain ⟨o, ho, hc, hd⟩ := id hit
  unfold pyNext
  refine wpAny_bind (wpAny_attempt (wpAny_callSpecial?_slot hit.typeIs F.slot_str_iterator_next (wpAny_call_entry F.slot_str_iterator_next hit.typeIs F.entry_str_iterator_next ?_ (F.args_str_iterator_next_1 _))))
  refine wpAny_bind (m := field (.ref it) 0) (wpAny_field ho hd (x := .str x t) rfl (wpAny_bind (m := field (.ref it) 1) (wpAny_field ho hd (x := .int i 0) rfl ?_)))
  simp only [Int.toNat_natCast, hx]
  refine wpAny_bind (wpAny_rule (wpAny_bind (wpAny_setField ho hd (by simp) (wpAny_bind (wpAny_letGo ?_)))))
  refine raise_end (A := A.in1) (HS.upd hh hne) fun h' e k ⟨o', ho', hc'⟩ => ?_
  refine wpAny_bind (wpAny_isInstance (T := "StopIteration") (b := true) ⟨_, ho', hc'⟩ isSubtype_stop ?_)
  exact wpAny_pure (hQ _ fun b o hb e => k _ _ (by rw [Heap.get?_update_other _ _ hb.symm]; exact e))
theorem end_range {it : Addr} {x left step : Int} {Q : Option Value → Shared → Prop} (hh : HS A s.heap) (hit : IsRangeIter s.heap it x left step) (hl : left ≤ 0)
    (hQ : ∀ h', Heap.ExtBut it s.heap h' → Q none { s with heap := h' }) : wpAny (model P w) A (pyNext (.ref it)) Q E s := by
  have hT : s.TypeIs (.ref it) "range_iterator" := ⟨_, hit, rfl⟩
  unfold pyNext
  refine wpAny_bind (wpAny_attempt (wpAny_callSpecial?_slot hT F.slot_range_iterator_next (wpAny_call_entry F.slot_range_iterator_next hT F.entry_range_iterator_next ?_ (F.args_range_iterator_next_1 _))))
  refine wpAny_bind (m := field (.ref it) 0) (wpAny_field hit rfl (x := rawInt x) rfl (wpAny_bind (m := field (.ref it) 1) (wpAny_field hit rfl (x := rawInt left) rfl (wpAny_bind (m := field (.ref it) 2) (wpAny_field hit rfl (x := rawInt step) rfl ?_)))))
  show wpAny _ _ (if left ≤ 0 then _ else _) _ _ s
  rw [if_pos hl]
  refine wpAny_bind (wpAny_rule (wpAny_bind ?_))
  refine raise_end (A := A.in1) hh fun h' e k ⟨o', ho', hc'⟩ => ?_
  refine wpAny_bind (wpAny_isInstance (T := "StopIteration") (b := true) ⟨_, ho', hc'⟩ isSubtype_stop ?_)
  exact wpAny_pure (hQ _ fun b o hb e => k _ _ e)
noncomputable def hdl (A : Around) : List Addr := match A.handled with | some (.ref d) => [d] | _ => []
theorem HS.keep {h h' : Heap} (hh : HS A h) (k : ∀ b ∈ hdl A, ∀ o, h.get? b = some o → h'.get? b = some o) : HS A h' := by
  rcases hh with x | ⟨d, od, vd, x, y, z⟩
  · exact .inl x
  · exact .inr ⟨d, od, vd, x, k d (by unfold hdl; rw [x]; simp) _ y, z⟩
theorem walks_list (I ax : Addr) (hne : ax ≠ I) (hd : ∀ d, A.handled = some (.ref d) → d ≠ I) (items : Array Value) :
    Walks P w A I ([I, ax] ++ hdl A) [I] items.size (fun i v => items[i]? = some v) (fun i h => (h.IsListIter I ax i ∧ h.IsList ax items) ∧ HS A h) where
  sub := fun b hb => by simp at hb; simp [hb]
  frame := fun _ _ _ st hk => ⟨⟨st.1.1.at fun o e => hk I (by simp) o e, st.1.2.at fun o e => hk ax (by simp) o e⟩, st.2.keep fun b hb o e => hk b (by simp [hb]) o e⟩
  item := fun i s Q E hi st hQ => by
    refine wpAny_pyNext_list_item st.1.1 st.1.2 (x := items[i]) (by simp [hi]) fun h' a b => ?_
    refine hQ _ h' s.toks (by simp [hi]) ⟨⟨a, st.1.2.extBut b.extBut hne⟩, ?_⟩ fun c o hc e => b.extBut c o (fun z => hc (by simp [z])) e
    rcases st.2 with x | ⟨d, od, vd, x, y, z⟩
    · exact .inl x
    · exact .inr ⟨d, od, vd, x, b.extBut d od (hd d x) y, z⟩
  done := fun s Q E st hQ => end_list st.2 st.1.1 st.1.2 (by simp) hd fun h' he => hQ h' s.toks fun b o hb e => he b o (fun z => hb (by simp [z])) e
  self := fun _ _ _ _ st hQ => wpAny_pyIter_listiter st.1.1 hQ
end
end L2

namespace L2
open PySem PySem.Spec PyProof.Rows

noncomputable abbrev Key := Sum Int Str
noncomputable def keyIs : Key → Value → Bool
  | .inl k, v => Value.isInt k v
  | .inr x, v => Value.isStrOf x v
noncomputable def keyH (w : World) : Key → Int
  | .inl k => hashInt k
  | .inr x => hashStr w x
theorem keyIs_shape : ∀ {k : Key} {v : Value}, keyIs k v = true → (∃ i t, k = Sum.inl i ∧ v = Value.int i t) ∨ (∃ x t, k = Sum.inr x ∧ v = Value.str x t)
  | .inl i, v, h => by
    obtain ⟨t, e⟩ := Value.isInt_shape (k := i) (v := v) h
    exact .inl ⟨i, t, rfl, e⟩
  | .inr x, v, h => by
    obtain ⟨t, e⟩ := Value.isStrOf_shape (x := x) (v := v) h
    exact .inr ⟨x, t, rfl, e⟩
theorem key_ll (a b : Int) : decide ((Sum.inl a : Key) = Sum.inl b) = (a == b) := by
  by_cases e : a = b
  · subst e; simp
  · have h : ¬ (Sum.inl a : Key) = Sum.inl b := fun q => e (Sum.inl.inj q)
    rw [decide_eq_false h]
    exact (beq_eq_false_iff_ne.mpr e).symm
theorem key_rr (a b : Str) : decide ((Sum.inr a : Key) = Sum.inr b) = decide (a = b) := by
  by_cases e : a = b
  · subst e; simp
  · have h : ¬ (Sum.inr a : Key) = Sum.inr b := fun q => e (Sum.inr.inj q)
    rw [decide_eq_false h, decide_eq_false e]
theorem key_lr (a : Int) (b : Str) : decide ((Sum.inl a : Key) = Sum.inr b) = false := decide_eq_false (fun q => nomatch q)
theorem key_rl (a : Str) (b : Int) : decide ((Sum.inr a : Key) = Sum.inl b) = false := decide_eq_false (fun q => nomatch q)

noncomputable def mixKind (prog : Program) (w : World) : PySem.KeyKind prog w Key where
  is := keyIs
  hash := keyH w
  inj := fun v a b ha hb => by
    rcases keyIs_shape ha with ⟨i, t, rfl, rfl⟩ | ⟨x, t, rfl, rfl⟩
    · rcases keyIs_shape hb with ⟨j, u, rfl, e⟩ | ⟨y, u, rfl, e⟩
      · injection e with e1 _; rw [e1]
      · exact nomatch e
    · rcases keyIs_shape hb with ⟨j, u, rfl, e⟩ | ⟨y, u, rfl, e⟩
      · exact nomatch e
      · injection e with e1 _; rw [e1]
  byValue := fun k v h => by
    rcases keyIs_shape h with ⟨i, t, rfl, rfl⟩ | ⟨x, t, rfl, rfl⟩ <;> rfl
  pyHash := fun hv h => by
    rcases keyIs_shape hv with ⟨i, t, rfl, rfl⟩ | ⟨x, t, rfl, rfl⟩
    · exact wpAny_pyHash_int h
    · exact wpAny_pyHash_str h
  eqBool := fun hu hv h => by
    rcases keyIs_shape hu with ⟨i, t, rfl, rfl⟩ | ⟨x, t, rfl, rfl⟩
    · rcases keyIs_shape hv with ⟨j, u, rfl, rfl⟩ | ⟨y, u, rfl, rfl⟩
      · rw [key_ll] at h; exact wpAny_eqBool_int h
      · rw [key_lr] at h; exact SeqAt.EqAt.int_str i t y u _ _ _ _ h
    · rcases keyIs_shape hv with ⟨j, u, rfl, rfl⟩ | ⟨y, u, rfl, rfl⟩
      · rw [key_rl] at h; exact SeqAt.EqAt.str_int x t j u _ _ _ _ h
      · rw [key_rr] at h; exact wpAny_eqBool_str h
  «strs» := fun k x t v h => by
    rcases keyIs_shape h with ⟨i, u, rfl, e⟩ | ⟨y, u, rfl, e⟩
    · exact nomatch e
    · injection e with e1 _
      subst e1
      cases v <;> rfl

end L2

namespace L2
open PySem PySem.Spec PyProof.Rows

inductive V where
  | non | bl (b : Bool) | int (i : Int) | str (x : Str) | byt (b : Array UInt8) | flt (b : UInt64) | ref (a : Addr) | ty (n : String)
  deriving DecidableEq

noncomputable def RelV : V → Value → Prop
  | .non, u => u = Value.none
  | .bl b, u => u = Value.bool b
  | .int i, u => ∃ t, u = Value.int i t
  | .str x, u => ∃ t, u = Value.str x t
  | .byt b, u => ∃ t, u = Value.bytes b t
  | .flt b, u => ∃ t, u = Value.float b t
  | .ref a, u => u = Value.ref a
  | .ty n, u => u = Value.type n

noncomputable abbrev Vals : List V → List Value → Prop := Paired RelV
theorem Vals.length {xs : List V} {us : List Value} (r : Vals xs us) : xs.length = us.length := Paired.length r
theorem Vals.get : ∀ {xs : List V} {us : List Value} {i : Nat} {x : V}, Vals xs us → xs[i]? = some x → ∃ u, us[i]? = some u ∧ RelV x u
  | _, _, _, _, .nil, e => by simp at e
  | _, _, 0, _, .cons r _, e => by simp at e; subst e; exact ⟨_, rfl, r⟩
  | _, _, i + 1, x, .cons _ t, e => by
    obtain ⟨u, h1, h2⟩ := Vals.get (i := i) (x := x) t (by simpa using e)
    exact ⟨u, by simpa using h1, h2⟩
theorem Vals.set {x : V} {u : Value} (r : RelV x u) : ∀ {xs : List V} {us : List Value} (i : Nat), Vals xs us → Vals (xs.set i x) (us.set i u)
  | _, _, _, .nil => .nil
  | _, _, 0, .cons _ t => .cons r t
  | _, _, i + 1, .cons q t => .cons q (Vals.set r i t)
theorem Vals.append : ∀ {xs ys : List V} {us ws : List Value}, Vals xs us → Vals ys ws → Vals (xs ++ ys) (us ++ ws)
  | _, _, _, _, .nil, s => s
  | _, _, _, _, .cons r t, s => .cons r (Vals.append t s)
theorem Vals.take : ∀ {xs : List V} {us : List Value} (n : Nat), Vals xs us → Vals (xs.take n) (us.take n)
  | _, _, 0, _ => .nil
  | _, _, _ + 1, .nil => .nil
  | _, _, n + 1, .cons r t => .cons r (Vals.take n t)
theorem Vals.drop : ∀ {xs : List V} {us : List Value} (n : Nat), Vals xs us → Vals (xs.drop n) (us.drop n)
  | _, _, 0, r => r
  | _, _, _ + 1, .nil => .nil
  | _, _, n + 1, .cons _ t => Vals.drop n t
noncomputable def RelO : Option V → Option Value → Prop
  | some v, some u => RelV v u
  | none, none => True
  | _, _ => False
noncomputable def KV {κ : Type} : List (κ × V) → List (κ × Value) → Prop := Paired fun (p : κ × V) (q : κ × Value) => p.1 = q.1 ∧ RelV p.2 q.2

noncomputable def kV : Key → V
  | .inl i => .int i
  | .inr x => .str x

inductive HO where
  /-- a list -/
  | lst (xs : List V)
  /-- a tuple (never changes) -/
  | tup (xs : List V)
  /-- a dict whose keys are ints and texts; one whose keys are tuples of ints and texts (the empty one is both) -/
  | dK (kvs : List (Key × V)) | dT (kvs : List (List Key × V))
  /-- a set of ints: its members, its size -/
  | set (S : Int → Bool) (n : Nat)
  /-- an instance of the class at C, its dict at dx, its attributes -/
  | ins (C dx : Addr) (fs : List (Str × V))
  /-- the dict of the instance at x -/
  | own (x : Addr)
  /-- the dict of an exception -/
  | xd (fs : List (Str × V))
  /-- a bound method, f of x -/
  | met (f x : Addr)
  /-- a range object lo, lo + 1, .. below hi -/
  | rng (lo hi : Int)
  /-- a thing that is known to the object (the script; a dict while a loop walks it): read, never written while it is so -/
  | frz (o : Obj) (u : HO)
  /-- a code object's table -/
  | tbl (ps : Array Value)
  /-- any other thing, by what is true of its one object (a def of one's own: SetO a S n := HO.ext fun h => ..) -/
  | ext (φ : Heap → Prop)

noncomputable abbrev Hp := Addr → Option HO
noncomputable def upd (H : Hp) (a : Addr) (o : HO) : Hp := fun b => if b = a then some o else H b
theorem upd_same {H : Hp} {a : Addr} {o : HO} : upd H a o a = some o := by unfold upd; rw [if_pos rfl]
theorem upd_ne {H : Hp} {a b : Addr} {o : HO} (h : b ≠ a) : upd H a o b = H b := by unfold upd; rw [if_neg h]
theorem ne_of {H : Hp} {a b : Addr} {o u : HO} (h : H a = some o) (h' : H b = some u) (d : o ≠ u) : a ≠ b := by
  intro e; subst e; rw [h] at h'; exact d (Option.some.inj h')
theorem ne_of_none {H : Hp} {a b : Addr} {o : HO} (h : H a = some o) (h' : H b = none) : a ≠ b := by
  intro e; subst e; rw [h] at h'; cases h'

section
variable (P : Program) (w : World)
noncomputable def ObjOk (H : Hp) (h : Heap) (a : Addr) : HO → Prop
  | .lst xs => xs.length ≤ sizeLine ∧ ∃ (its : List Value) (n : Nat), Vals xs its ∧ h.get? a = some { cls := .type "list", data := .seq its.toArray n }
  | .tup xs => xs.length ≤ sizeLine ∧ ∃ its : List Value, Vals xs its ∧ IsTup h a its.toArray
  | .dK kvs => kvs.length ≤ sizeLine ∧ (a == sysModules) = false ∧ ∃ vs, KV kvs vs ∧ h.DictOf (mixKind P w) a vs
  | .dT kvs => kvs.length ≤ sizeLine ∧ (a == sysModules) = false ∧ ∃ xs : List (List Key × Addr × Value),
      Paired (fun (p : List Key × V) (q : List Key × Addr × Value) => p.1 = q.1 ∧ H q.2.1 = some (.tup (p.1.map kV)) ∧ RelV p.2 q.2.2) kvs xs ∧
      ∃ o es ep, h.get? a = some o ∧ o.ExactDict ∧ o.data = .dict es ep ∧ es.toList = xs.map (entryOfKey (tupleKind (mixKind P w))) ∧ (xs.map (·.1)).Nodup
  | .set S n => h.SetOf (intKind P w) a S n
  | .ins C dx fs => H dx = some (.own a) ∧ fs.length ≤ 1000 ∧ dx ≠ a ∧ h.get? a = some (PySem.W.instObj C dx) ∧
      ∃ mA, h.Ns1 dx mA ∧ (∀ f, RelO (fs.lookup f) (mA f)) ∧ PySem.Within mA (fs.map (·.1))
  | .own _ => ∃ o, h.get? a = some o
  | .xd fs => ∃ mA, h.Ns1 a mA ∧ ∀ f, RelO (fs.lookup f) (mA f)
  | .rng lo hi => ∃ t u v, h.get? a = some { cls := .type "range", data := .fields #[.int lo t, .int hi u, .int 1 v] }
  | .frz o u => h.get? a = some o ∧ ObjOk H h a u
  | .tbl ps => h.get? a = some { cls := .none, data := .fields ps }
  | .met f x => h.get? a = some (PySem.W.methodObj (.ref f) (.ref x))
  | .ext φ => φ h ∧ (∃ o, h.get? a = some o) ∧ ∀ h1 h2 : Heap, φ h1 → (∀ o, h1.get? a = some o → h2.get? a = some o) → φ h2
noncomputable def HOk (H : Hp) (h : Heap) : Prop := ∀ a o, H a = some o → ObjOk P w H h a o
end

section
variable {P : Program} {w : World} {H H' : Hp} {h h' : Heap} {a : Addr} {o : HO}
theorem ObjOk.lt (x : ObjOk P w H h a o) : a < h.objs.size := by
  cases o with
  | lst xs => obtain ⟨_, _, _, _, e⟩ := x; exact Heap.lt_size e
  | tup xs => obtain ⟨_, _, _, p⟩ := x; exact p.lt
  | dK kvs => obtain ⟨_, _, _, _, o, _, _, e, _⟩ := x; exact Heap.lt_size e
  | dT kvs => obtain ⟨_, _, _, _, o, _, _, e, _⟩ := x; exact Heap.lt_size e
  | set S n => obtain ⟨o, _, _, _, e, _⟩ := x; exact Heap.lt_size e
  | ins C dx fs => obtain ⟨_, _, _, e, _⟩ := x; exact Heap.lt_size e
  | own y => obtain ⟨_, e⟩ := x; exact Heap.lt_size e
  | xd fs => obtain ⟨_, ⟨_, _, _, e, _⟩, _⟩ := x; exact Heap.lt_size e
  | rng lo hi => obtain ⟨_, _, _, e⟩ := x; exact Heap.lt_size e
  | frz ob u => obtain ⟨e, _⟩ := x; exact Heap.lt_size e
  | tbl ps => exact Heap.lt_size (show h.get? a = some _ from x)
  | met f y => exact Heap.lt_size (show h.get? a = some _ from x)
  | ext φ => obtain ⟨_, ⟨_, e⟩, _⟩ := x; exact Heap.lt_size e
theorem Paired.mapP {α β : Type} {F G : α → β → Prop} : ∀ {l₁ : List α} {l₂ : List β}, Paired F l₁ l₂ → (∀ a b, F a b → G a b) → Paired G l₁ l₂
  | _, _, .nil, _ => .nil
  | _, _, .cons r t, f => .cons (f _ _ r) (Paired.mapP t f)
theorem ObjOk.stay (x : ObjOk P w H h a o) (k : ∀ b u, (b = a ∨ H b = some (.own a)) → h.get? b = some u → h'.get? b = some u)
    (ho : ∀ b, H b = some (.own a) → H' b = some (.own a)) (ht : ∀ b xs, H b = some (.tup xs) → H' b = some (.tup xs)) : ObjOk P w H' h' a o := by
  induction o with
  | lst xs => obtain ⟨z, its, n, r, e⟩ := x; exact ⟨z, its, n, r, k _ _ (.inl rfl) e⟩
  | tup xs => obtain ⟨z, its, r, ob, e, c⟩ := x; exact ⟨z, its, r, ob, k _ _ (.inl rfl) e, c⟩
  | dK kvs => obtain ⟨z, y, vs, r, ob, es, ep, e, c⟩ := x; exact ⟨z, y, vs, r, ob, es, ep, k _ _ (.inl rfl) e, c⟩
  | dT kvs =>
    obtain ⟨z, y, xs, r, ob, es, ep, e, c⟩ := x
    exact ⟨z, y, xs, Paired.mapP r fun p q z => ⟨z.1, ht _ _ z.2.1, z.2.2⟩, ob, es, ep, k _ _ (.inl rfl) e, c⟩
  | set S n => obtain ⟨ob, es, ep, t, e, c⟩ := x; exact ⟨ob, es, ep, t, k _ _ (.inl rfl) e, c⟩
  | ins C dx fs =>
    obtain ⟨d, z, ne, e, mA, ⟨od, es, ep, e2, c⟩, r⟩ := x
    exact ⟨ho _ d, z, ne, k _ _ (.inl rfl) e, mA, ⟨od, es, ep, k _ _ (.inr d) e2, c⟩, r⟩
  | own y => obtain ⟨ob, e⟩ := x; exact ⟨ob, k _ _ (.inl rfl) e⟩
  | xd fs => obtain ⟨mA, ⟨od, es, ep, e, c⟩, r⟩ := x; exact ⟨mA, ⟨od, es, ep, k _ _ (.inl rfl) e, c⟩, r⟩
  | rng lo hi => obtain ⟨t, u, v, e⟩ := x; exact ⟨t, u, v, k _ _ (.inl rfl) e⟩
  | frz ob u ih => obtain ⟨e, q⟩ := x; exact ⟨k _ _ (.inl rfl) e, ih q⟩
  | tbl ps =>
    have e : h.get? a = some { cls := .none, data := .fields ps } := x
    show h'.get? a = some { cls := .none, data := .fields ps }
    exact k a _ (.inl rfl) e
  | met f y =>
    have e : h.get? a = some (PySem.W.methodObj (.ref f) (.ref y)) := x
    show h'.get? a = some (PySem.W.methodObj (.ref f) (.ref y))
    exact k a _ (.inl rfl) e
  | ext φ => obtain ⟨p, ⟨o, e⟩, st⟩ := x; exact ⟨st _ _ p fun o q => k _ _ (.inl rfl) q, ⟨o, k _ _ (.inl rfl) e⟩, st⟩
theorem HOk.lt (x : HOk P w H h) (e : H a = some o) : a < h.objs.size := (x a o e).lt
theorem HOk.fresh (x : HOk P w H h) (e : h.objs.size ≤ a) : H a = none := by
  cases q : H a with
  | none => rfl
  | some u => exact absurd (Nat.lt_of_lt_of_le (x.lt q) e) (Nat.lt_irrefl _)
theorem HOk.kept (x : HOk P w H h) (k : ∀ b u, h.get? b = some u → h'.get? b = some u) : HOk P w H h' := fun a o e =>
  (x a o e).stay (fun b u _ q => k b u q) (fun _ q => q) fun _ _ q => q
theorem HOk.laid (x : HOk P w H h) (k : ∀ b u, h.get? b = some u → h'.get? b = some u) (hp : h.objs.size ≤ a) (new : ObjOk P w (upd H a o) h' a o) : HOk P w (upd H a o) h' := fun b u e => by
  have hn := x.fresh hp
  by_cases hb : b = a
  · subst hb; rw [upd_same] at e; cases e; exact new
  · rw [upd_ne hb] at e
    exact (x b u e).stay (fun c v _ q => k c v q) (fun c q => by rw [upd_ne (ne_of_none q hn)]; exact q) fun c xs q => by rw [upd_ne (ne_of_none q hn)]; exact q
end

noncomputable def Rd (H : Hp) (a : Addr) (u : HO) : Prop := H a = some u ∨ ∃ o, H a = some (.frz o u)
theorem Rd.of {H : Hp} {a : Addr} {u : HO} (h : H a = some u) : Rd H a u := .inl h
theorem Rd.ok {P : Program} {w : World} {H : Hp} {h : Heap} {a : Addr} {u : HO} (r : Rd H a u) (x : HOk P w H h) : ObjOk P w H h a u := by
  rcases r with r | ⟨o, r⟩
  · exact x a u r
  · obtain ⟨_, q⟩ := x a _ r
    exact q
noncomputable def Mut : Option HO → Prop
  | some (.lst _) => True
  | some (.dK _) => True
  | some (.dT _) => True
  | some (.set _ _) => True
  | some (.ins _ _ _) => True
  | some (.ext _) => True
  | _ => False
section
variable {P : Program} {w : World} {H : Hp} {h h' : Heap} {x e : Addr} {o' : HO}
theorem HOk.write (ok : HOk P w H h) (mu : Mut (H x)) (he : e = x ∨ H e = some (.own x)) (k : ∀ b u, b ≠ e → h.get? b = some u → h'.get? b = some u) (heo : ∃ u, h'.get? e = some u)
    (new : ObjOk P w (upd H x o') h' x o') : HOk P w (upd H x o') h' := fun b u q => by
  have nown : ∀ c y, H c = some (.own y) → c ≠ x := fun c y r z => by subst z; rw [r] at mu; exact mu
  have ntup : ∀ c xs, H c = some (.tup xs) → c ≠ x := fun c xs r z => by subst z; rw [r] at mu; exact mu
  by_cases hb : b = x
  · subst hb; rw [upd_same] at q; cases q; exact new
  · rw [upd_ne hb] at q
    by_cases hbe : b = e
    · have q' : H b = some (.own x) := by
        rcases he with z | z
        · exact absurd (hbe.trans z) hb
        · rw [hbe]; exact z
      rw [q] at q'; cases q'
      obtain ⟨v, hv⟩ := heo
      exact ⟨v, by rw [hbe]; exact hv⟩
    · refine (ok b u q).stay (fun c v hc r => k c v ?_ r) (fun c r => by rw [upd_ne (nown c b r)]; exact r) fun c xs r => by rw [upd_ne (ntup c xs r)]; exact r
      rcases hc with rfl | hc
      · exact hbe
      · rintro rfl
        rcases he with z | z
        · exact nown c b hc z
        · rw [hc] at z; cases z; exact hb rfl
end

structure Un (fs ex : List Addr) (H H' : Hp) (h h' : Heap) : Prop where
  keep : ∀ b o, h.get? b = some o → H b = none → b ∉ fs → b ∉ ex → h'.get? b = some o
  slot : ∀ b o, h.get? b = some o → H b = none → b ∈ fs → b ∉ ex → ∃ sl, h'.get? b = some { o with slots := sl }
  free : ∀ b o, h.get? b = some o → H b = none → b ∉ ex → H' b = none
  there : ∀ b o, h.get? b = some o → b ∉ ex → ∃ o', h'.get? b = some o'
  tups : ∀ b xs, H b = some (.tup xs) → H' b = some (.tup xs)
  frzs : ∀ b o u, H b = some (.frz o u) → H' b = some (.frz o u)
  tbls : ∀ b ps, H b = some (.tbl ps) → ∃ more, H' b = some (.tbl (ps ++ more))
section
variable {fs fs' ex ex' : List Addr} {H H1 H2 : Hp} {h h1 h2 h' : Heap} {a x e : Addr} {o : HO}
theorem Un.any (u : Un fs ex H H1 h h1) {b : Addr} {ob : Obj} (q : h.get? b = some ob) (n : H b = none) (hx : b ∉ ex) : ∃ sl, h1.get? b = some { ob with slots := sl } := by
  by_cases hb : b ∈ fs
  · exact u.slot b ob q n hb hx
  · exact ⟨ob.slots, u.keep b ob q n hb hx⟩
theorem Un.trans (a : Un fs ex H H1 h h1) (b : Un fs ex H1 H2 h1 h2) : Un fs ex H H2 h h2 where
  keep := fun c ob q n hc hx => b.keep c ob (a.keep c ob q n hc hx) (a.free c ob q n hx) hc hx
  slot := fun c ob q n hc hx => by
    obtain ⟨sl, e1⟩ := a.slot c ob q n hc hx
    obtain ⟨sl', e2⟩ := b.slot c _ e1 (a.free c ob q n hx) hc hx
    exact ⟨sl', e2⟩
  free := fun c ob q n hx => by
    obtain ⟨o', e1⟩ := a.there c ob q hx
    exact b.free c o' e1 (a.free c ob q n hx) hx
  there := fun c ob q hx => by
    obtain ⟨o', e1⟩ := a.there c ob q hx
    exact b.there c o' e1 hx
  tups := fun c xs q => b.tups c xs (a.tups c xs q)
  frzs := fun c ob xs q => b.frzs c ob xs (a.frzs c ob xs q)
  tbls := fun c ps q => by
    obtain ⟨m1, e1⟩ := a.tbls c ps q
    obtain ⟨m2, e2⟩ := b.tbls c _ e1
    exact ⟨m1 ++ m2, by rw [e2, Array.append_assoc]⟩
theorem Un.kept (k : ∀ b u, h.get? b = some u → h'.get? b = some u) : Un fs ex H H h h' :=
  ⟨fun b ob q _ _ _ => k b ob q, fun b ob q _ _ _ => ⟨ob.slots, k b ob q⟩, fun _ _ _ n _ => n, fun b ob q _ => ⟨ob, k b ob q⟩, fun _ _ q => q, fun _ _ _ q => q, fun _ ps q => ⟨#[], by rw [q]; simp⟩⟩
theorem Un.refl : Un fs ex H H h h := Un.kept fun _ _ q => q
theorem Un.laid (k : ∀ b u, h.get? b = some u → h'.get? b = some u) (hp : h.objs.size ≤ a) (hn : H a = none) : Un fs ex H (upd H a o) h h' where
  keep := fun b u q _ _ _ => k b u q
  slot := fun b u q _ _ _ => ⟨u.slots, k b u q⟩
  free := fun b u q n _ => by rw [upd_ne (Nat.ne_of_lt (Nat.lt_of_lt_of_le (Heap.lt_size q) hp))]; exact n
  there := fun b u q _ => ⟨u, k b u q⟩
  tups := fun b xs q => by rw [upd_ne (ne_of_none q hn)]; exact q
  frzs := fun b u xs q => by rw [upd_ne (ne_of_none q hn)]; exact q
  tbls := fun b ps q => ⟨#[], by rw [upd_ne (ne_of_none q hn), q]; simp⟩
theorem Un.write (mu : Mut (H x)) (he : e = x ∨ H e = some (.own x)) (k : ∀ b u, b ≠ e → h.get? b = some u → h'.get? b = some u) (heo : ∃ u, h'.get? e = some u) : Un fs ex H (upd H x o) h h' := by
  have hx : ∀ b, H b = none → b ≠ x := fun b n z => by subst z; rw [n] at mu; exact mu
  have hb : ∀ b, H b = none → b ≠ e := fun b n z => by
    subst z
    rcases he with r | r
    · exact hx b n r
    · rw [n] at r; cases r
  have hm : ∀ b u, H b = some u → ¬ Mut (some u) → b ≠ x := fun b u q nm z => by subst z; rw [q] at mu; exact nm mu
  refine ⟨fun b u q n _ _ => k b u (hb b n) q, fun b u q n _ _ => ⟨u.slots, k b u (hb b n) q⟩, fun b u q n _ => by rw [upd_ne (hx b n)]; exact n, fun b u q _ => ?_,
    fun b xs q => by rw [upd_ne (hm b _ q fun z => z)]; exact q, fun b u xs q => by rw [upd_ne (hm b _ q fun z => z)]; exact q, fun b ps q => ⟨#[], by rw [upd_ne (hm b _ q fun z => z), q]; simp⟩⟩
  by_cases hbe : b = e
  · subst hbe; exact heo
  · exact ⟨u, k b u hbe q⟩
theorem Un.mono (u : Un fs ex H H1 h h1) (hs : ∀ b ∈ fs, b ∈ fs') (hx : ∀ b ∈ ex, b ∈ ex') : Un fs' ex' H H1 h h1 :=
  ⟨fun b ob q n hb he => u.keep b ob q n (fun z => hb (hs b z)) fun z => he (hx b z), fun _ _ q n _ he => u.any q n fun z => he (hx _ z), fun b ob q n he => u.free b ob q n fun z => he (hx b z), fun b ob q he => u.there b ob q fun z => he (hx b z), u.tups, u.frzs, u.tbls⟩
end

noncomputable def trk (h : Heap) (H : Hp) : List Addr := (List.range h.objs.size).filter fun a => (H a).isSome
noncomputable def hidT (h : Heap) (H : Hp) : Heap := PySem.W.hideAll h (trk h H)
theorem hidT_size (h : Heap) (H : Hp) : (hidT h H).objs.size = h.objs.size := PySem.W.hideAll_size _ _
theorem hidT_get {h : Heap} {H : Hp} {b : Addr} {o : Obj} (e : h.get? b = some o) (n : H b = none) : (hidT h H).get? b = some o :=
  PySem.W.hideAll_get _ e fun hm => by
    have q : (H b).isSome = true := (List.mem_filter.mp hm).2
    rw [n] at q; simp at q
theorem of_hidT {h : Heap} {H : Hp} {b : Addr} {o : Obj} (e : (hidT h H).get? b = some o) : h.get? b = some o ∧ H b = none := by
  have e' : h.get? b = some o := PySem.W.of_hideAll (trk h H) e
  refine ⟨e', ?_⟩
  cases q : H b with
  | none => rfl
  | some x =>
    have hm : b ∈ trk h H := List.mem_filter.mpr ⟨List.mem_range.mpr (Heap.lt_size e'), by simp [q]⟩
    have z : (hidT h H).get? b = none := PySem.W.hideAll_none (trk h H) hm
    rw [z] at e; cases e

noncomputable def allNews (g h : Heap) (L : Addr) : List (Addr × Obj) := (List.range h.objs.size).filterMap fun a => if a = L ∨ (g.get? a).isSome = true then none else (h.get? a).map fun o => (a, o)
noncomputable def rest (g h : Heap) (L d : Addr) : List (Addr × Obj) := (allNews g h L).filter fun p => decide (p.1 ≠ d)
end L2

namespace L2
open PySem PySem.Spec PyProof.Rows

structure Mod (K : PySem.W.Frag) (mg : Str → Option Value) (base : Heap) : Prop where
  kin : K.In base
  glob : base.Ns mainGlobals mg
  blt : ∃ mb, base.Ns builtinsNs mb ∧ ∀ x : Str, x ≠ "__name__" → mb x = bootBuiltins x
  nolimit : base.NoLimit

structure Cx where
  prog : Program
  w : World
  K : PySem.W.Frag
  mg : Str → Option Value
  base : Heap
  A : Around
  N : List Str
  s₀ : Shared
  H₀ : Hp
  env : Env
  outer : List Env
  stack : List Env
  ex : List Addr
  fn : Str → Bool
  calm : Bool
  pn : List (Addr × Obj)
  xe : Value → Shared → Prop
noncomputable def frs (l : List Env) : List Addr := l.filterMap (·.frame)
noncomputable abbrev Cx.fs (X : Cx) : List Addr := frs X.outer

noncomputable def Vis (sc : Scope) (x : Str) : Prop := sc.names.lookup x = some .local ∨ sc.names.lookup x = some .cell ∨ sc.names.lookup x = some .free
noncomputable def Loc (sc : Scope) (x : Str) : Prop := sc.names.lookup x = some .local ∨ sc.names.lookup x = some .cell
noncomputable def Look (env : Env) (h : Heap) (m : Str → Option Value) (x : Str) (u : Value) : Prop :=
  (env.kindOf x = some .local ∧ m x = some u) ∨ ((env.kindOf x = some .cell ∨ env.kindOf x = some .free) ∧ ∃ c, env.cells.lookup x = some c ∧ h.IsCell c (some u))

structure Cx.Ok (X : Cx) : Prop where
  mod : Mod X.K X.mg X.base
  kind : X.env.scope.kind = .function
  glob : X.env.globals = mainGlobals
  blt : X.env.builtins = builtinsNs
  above : X.s₀.heap.objs.size ≤ X.env.locals
  inj : ∀ x y c, X.env.cells.lookup x = some c → X.env.cells.lookup y = some c → x = y
  has : ∀ x, (X.env.kindOf x = some .cell ∨ X.env.kindOf x = some .free) → ∃ c, X.env.cells.lookup x = some c
  cab : ∀ x c, X.fn x = true → X.env.cells.lookup x = some c → X.s₀.heap.objs.size ≤ c
  hd : X.calm = true → HS X.A X.base
  frames : X.A.frames = some X.stack
  stk : X.stack = X.outer ∨ (X.stack = X.env :: X.outer ∧ X.env.frame = some X.env.locals)
  exf : ∀ b ∈ X.ex, b ≠ X.env.locals ∧ ∀ x c, X.env.cells.lookup x = some c → c ≠ b
  bs : ∀ b o, X.base.get? b = some o → X.s₀.heap.get? b = some o ∧ X.H₀ b = none
  bsz : X.base.objs.size ≤ X.s₀.heap.objs.size
  noex : ∀ b o, X.base.get? b = some o → b ∉ X.ex
  exfs : ∀ b ∈ X.ex, b ∉ X.fs
  funs : X.s₀.heap.FunFrames X.base X.outer
  frf : ∀ b ∈ X.fs, X.H₀ b = none

structure Inv (X : Cx) (pins : List (Addr × Obj)) (σ : List (Option V)) (H : Hp) (s : Shared) : Prop where
  ok : X.Ok
  os : s.os = X.s₀.os
  bare : AllBare s.gens
  base : Un X.fs X.ex X.H₀ H X.s₀.heap s.heap
  loc : ∃ m, s.heap.Ns X.env.locals m ∧ ∀ (i : Nat) (x : Str) (v : V), X.N[i]? = some x → σ[i]? = some (some v) → Vis X.env.scope x → ∃ u, RelV v u ∧ Look X.env s.heap m x u
  cell : ∀ x c, X.env.cells.lookup x = some c → ∃ v, s.heap.IsCell c v
  free : H X.env.locals = none
  freeC : ∀ x c, X.env.cells.lookup x = some c → H c = none
  pin : ∀ p ∈ X.pn ++ pins, s.heap.get? p.1 = some p.2 ∧ H p.1 = none ∧ p.1 ≠ X.env.locals ∧ p.1 ∉ X.fs ∧ ∀ v, p.2.data ≠ .cell v
  hok : HOk X.prog X.w H s.heap
  len : σ.length = X.N.length

section
variable {X : Cx} {pins : List (Addr × Obj)} {σ : List (Option V)} {H H' : Hp} {s : Shared} {h' : Heap}

theorem Cx.Ok.nofr (ok : X.Ok) {b : Addr} {o : Obj} (e : X.base.get? b = some o) : b ∉ X.fs := fun hb => by
  have := (ok.funs.mem hb).1
  rw [e] at this; cases this
theorem Inv.bs (I : Inv X pins σ H s) : ∀ b o, X.base.get? b = some o → s.heap.get? b = some o ∧ H b = none := fun b o e =>
  ⟨I.base.keep b o (I.ok.bs b o e).1 (I.ok.bs b o e).2 (I.ok.nofr e) (I.ok.noex b o e), I.base.free b o (I.ok.bs b o e).1 (I.ok.bs b o e).2 (I.ok.noex b o e)⟩
theorem Inv.bk (I : Inv X pins σ H s) : ∀ b o, X.base.get? b = some o → s.heap.get? b = some o := fun b o e => (I.bs b o e).1
theorem Inv.mod (I : Inv X pins σ H s) : Mod X.K X.mg X.base := I.ok.mod
theorem Inv.kIn (I : Inv X pins σ H s) : X.K.In s.heap := I.ok.mod.kin.keeps I.bk
theorem Inv.hs (I : Inv X pins σ H s) (hc : X.calm = true) : HS X.A s.heap := (I.ok.hd hc).on I.bk
theorem Inv.hne (I : Inv X pins σ H s) (hc : X.calm = true) {it : Addr} (f : it ∈ X.ex ∨ X.s₀.heap.objs.size ≤ it) : ∀ d, X.A.handled = some (.ref d) → d ≠ it := fun d hd z => by
  rcases I.ok.hd hc with k | ⟨d', od, vd, k, g, _⟩
  · rw [k] at hd; cases hd
  · rw [k] at hd; cases hd
    subst z
    rcases f with f | f
    · exact I.ok.noex _ _ g f
    · exact absurd (Nat.lt_of_lt_of_le (Heap.lt_size (I.ok.bs _ _ g).1) f) (Nat.lt_irrefl _)
theorem Inv.nolimit (I : Inv X pins σ H s) : s.heap.NoLimit := I.ok.mod.nolimit.keeps I.bk
theorem Inv.fr (I : Inv X pins σ H s) : ∃ m, Fr X.base X.env.locals s.heap m :=
  let ⟨m, hn, _⟩ := I.loc
  ⟨m, hn, I.bk, Nat.le_trans I.ok.bsz I.ok.above⟩
theorem Inv.lt (I : Inv X pins σ H s) : X.env.locals < s.heap.objs.size := let ⟨_, hn, _⟩ := I.loc; hn.lt
theorem Inv.sz (I : Inv X pins σ H s) : X.s₀.heap.objs.size ≤ s.heap.objs.size := Nat.le_trans I.ok.above (Nat.le_of_lt I.lt)
theorem Inv.nofs (I : Inv X pins σ H s) {a : Addr} (h : s.heap.objs.size ≤ a) : a ∉ X.fs := fun hb => by
  obtain ⟨_, o, ho, _⟩ := I.ok.funs.mem hb
  exact absurd (Nat.lt_of_lt_of_le (Heap.lt_size ho) (Nat.le_trans I.sz h)) (Nat.lt_irrefl _)
theorem Inv.cne (I : Inv X pins σ H s) : ∀ x c, X.env.cells.lookup x = some c → c ≠ X.env.locals := fun x c e z => by
  obtain ⟨v, o, ho, hd⟩ := I.cell x c e
  obtain ⟨m, ⟨o', es, ep, ho', hd', _⟩, _⟩ := I.loc
  rw [z, ho'] at ho; cases ho; rw [hd'] at hd; cases hd
theorem Inv.funs (I : Inv X pins σ H s) : s.heap.FunFrames X.base X.outer := by
  have all : ∀ (l : List Env), (∀ b ∈ frs l, b ∈ X.fs) → X.s₀.heap.FunFrames X.base l → s.heap.FunFrames X.base l := by
    intro l
    induction l with
    | nil => intro _ _; trivial
    | cons env r ih =>
      intro hs hl
      obtain ⟨hk, ⟨L, o, hf, hn, ho, hd⟩, hr⟩ := hl
      have hL : L ∈ X.fs := hs L (by unfold frs; rw [List.filterMap_cons, hf]; exact List.mem_cons_self)
      obtain ⟨sl, e⟩ := I.base.slot L o ho (I.ok.frf L hL) hL fun z => I.ok.exfs L z hL
      exact ⟨hk, ⟨L, _, hf, hn, e, hd⟩, ih (fun b hb => hs b (by unfold frs; rw [List.filterMap_cons, hf]; exact List.mem_cons_of_mem _ hb)) hr⟩
  exact all X.outer (fun _ hb => hb) I.ok.funs

theorem Inv.stack (I : Inv X pins σ H s) : s.heap.FunFrames X.base X.stack := by
  rcases I.ok.stk with e | ⟨e, hf⟩
  · rw [e]; exact I.funs
  · rw [e]
    obtain ⟨m, hn, _⟩ := I.loc
    refine .cons (by rw [I.ok.kind]; decide) hf hn ?_ I.funs
    exact Heap.get?_none_of_le (Nat.le_trans I.ok.bsz I.ok.above)
theorem Inv.stkSub (I : Inv X pins σ H s) : ∀ b ∈ frs X.stack, b ∈ X.env.locals :: X.fs := fun b hb => by
  rcases I.ok.stk with e | ⟨e, hf⟩
  · rw [e] at hb; exact List.mem_cons_of_mem _ hb
  · rw [e] at hb
    unfold frs at hb
    rw [List.filterMap_cons, hf] at hb
    exact hb
theorem Inv.stkFree (I : Inv X pins σ H s) : ∀ b ∈ frs X.stack, H b = none := fun b hb => by
  rcases List.mem_cons.mp (I.stkSub b hb) with e | hb
  · rw [e]; exact I.free
  · obtain ⟨_, o, ho, _⟩ := I.ok.funs.mem hb
    exact I.base.free b o ho (I.ok.frf b hb) fun z => I.ok.exfs b z hb

theorem Inv.step {g' : Array GenState} {t' : Nat} {d' : Drawn} {ch : List Addr} (I : Inv X pins σ H s)
    (hch : ∀ b ∈ ch, (b ∈ X.ex ∨ X.s₀.heap.objs.size ≤ b) ∧ b ≠ X.env.locals ∧ (∀ x c, X.env.cells.lookup x = some c → c ≠ b) ∧ ∀ p ∈ X.pn ++ pins, p.1 ≠ b)
    (keep : ∀ b o, b ≠ X.env.locals → b ∉ X.fs → b ∉ ch → s.heap.get? b = some o → H b = none → h'.get? b = some o)
    (slot : ∀ b o, b ≠ X.env.locals → b ∈ X.fs → b ∉ ch → s.heap.get? b = some o → H b = none → ∃ sl, h'.get? b = some { o with slots := sl }) (free : ∀ b o, b ∉ ch → s.heap.get? b = some o → H b = none → H' b = none)
    (there : ∀ b o, b ∉ ch → s.heap.get? b = some o → ∃ o', h'.get? b = some o')
    (tups : ∀ b xs, H b = some (.tup xs) → H' b = some (.tup xs)) (frzs : ∀ b o u, H b = some (.frz o u) → H' b = some (.frz o u)) (tbls : ∀ b ps, H b = some (.tbl ps) → ∃ more, H' b = some (.tbl (ps ++ more)))
    (ns : ∀ m, s.heap.Ns X.env.locals m → h'.Ns X.env.locals m) (hok : HOk X.prog X.w H' h') (hg : AllBare g') :
    Inv X pins σ H' { s with heap := h', gens := g', drawn := d', toks := t' } := by
  have neL : ∀ b o, X.s₀.heap.get? b = some o → b ≠ X.env.locals := fun b o e => Nat.ne_of_lt (Nat.lt_of_lt_of_le (Heap.lt_size e) I.ok.above)
  have neC : ∀ b o, X.s₀.heap.get? b = some o → b ∉ X.ex → b ∉ ch := fun b o e hx hb => by
    rcases (hch b hb).1 with z | z
    · exact hx z
    · exact absurd (Nat.lt_of_lt_of_le (Heap.lt_size e) z) (Nat.lt_irrefl _)
  have cellK : ∀ x c, X.env.cells.lookup x = some c → ∀ v, s.heap.IsCell c v → h'.IsCell c v := fun x c e v ⟨o, ho, hd⟩ => by
    have nch : c ∉ ch := fun z => (hch c z).2.2.1 x c e rfl
    by_cases hc : c ∈ X.fs
    · obtain ⟨sl, q⟩ := slot c o (I.cne x c e) hc nch ho (I.freeC x c e)
      exact ⟨_, q, hd⟩
    · exact ⟨o, keep c o (I.cne x c e) hc nch ho (I.freeC x c e), hd⟩
  refine ⟨I.ok, I.os, hg, ⟨fun b o e n hb hx => ?_, fun b o e n hb hx => ?_, fun b o e n hx => ?_, fun b o e hx => ?_, fun b xs e => tups b xs (I.base.tups b xs e), fun b o xs e => frzs b o xs (I.base.frzs b o xs e), fun b ps e => ?_⟩, ?_, fun x c e => ?_, ?_, fun x c e => ?_, fun p hp => ?_, hok, I.len⟩
  · exact keep b o (neL b o e) hb (neC b o e hx) (I.base.keep b o e n hb hx) (I.base.free b o e n hx)
  · obtain ⟨sl, e1⟩ := I.base.slot b o e n hb hx
    obtain ⟨sl', e2⟩ := slot b _ (neL b o e) hb (neC b o e hx) e1 (I.base.free b o e n hx)
    exact ⟨sl', e2⟩
  · obtain ⟨o', e1⟩ := I.base.there b o e hx
    exact free b o' (neC b o e hx) e1 (I.base.free b o e n hx)
  · obtain ⟨o', e1⟩ := I.base.there b o e hx
    exact there b o' (neC b o e hx) e1
  · obtain ⟨m1, e1⟩ := I.base.tbls b ps e
    obtain ⟨m2, e2⟩ := tbls b _ e1
    exact ⟨m1 ++ m2, by rw [e2, Array.append_assoc]⟩
  · obtain ⟨m, hn, hl⟩ := I.loc
    refine ⟨m, ns m hn, fun i x v e1 e2 e3 => ?_⟩
    obtain ⟨u, r, l⟩ := hl i x v e1 e2 e3
    refine ⟨u, r, ?_⟩
    rcases l with l | ⟨k, c, e, z⟩
    · exact .inl l
    · exact .inr ⟨k, c, e, cellK x c e _ z⟩
  · obtain ⟨v, z⟩ := I.cell x c e
    exact ⟨v, cellK x c e v z⟩
  · obtain ⟨m, ⟨o, _, _, ho, _⟩, _⟩ := I.loc
    exact free _ o (fun z => (hch _ z).2.1 rfl) ho I.free
  · obtain ⟨v, o, ho, hd⟩ := I.cell x c e
    exact free c o (fun z => (hch c z).2.2.1 x c e rfl) ho (I.freeC x c e)
  · obtain ⟨e, n, ne, nf, d⟩ := I.pin p hp
    have nch : p.1 ∉ ch := fun z => (hch p.1 z).2.2.2 p hp rfl
    exact ⟨keep p.1 p.2 ne nf nch e n, free p.1 p.2 nch e n, ne, nf, d⟩
theorem Inv.un {t' : Nat} (I : Inv X pins σ H s) (u : Un X.fs [] H H' s.heap h') (hok : HOk X.prog X.w H' h') : Inv X pins σ H' { s with heap := h', toks := t' } := by
  obtain ⟨m, ⟨o, es, ep, ho, r⟩, _⟩ := id I.loc
  obtain ⟨sl, hL⟩ := u.any ho I.free (by simp)
  exact I.step (g' := s.gens) (d' := s.drawn) (ch := []) (fun _ z => nomatch z) (fun b o _ hb _ e n => u.keep b o e n hb (by simp)) (fun b o _ hb _ e n => u.slot b o e n hb (by simp)) (fun b o _ e n => u.free b o e n (by simp)) (fun b o _ e => u.there b o e (by simp)) u.tups u.frzs u.tbls (fun m' hm => by
    obtain ⟨o', es', ep', ho', r'⟩ := hm
    rw [ho] at ho'; cases ho'
    exact ⟨_, es', ep', hL, r'⟩) hok I.bare
theorem Inv.call {g' : Array GenState} {t' : Nat} {d' : Drawn} {ch : List Addr} (I : Inv X pins σ H s) (u : Un (frs X.stack) ch H H' s.heap h') (hok : HOk X.prog X.w H' h') (hg : AllBare g')
    (hch : ∀ b ∈ ch, (b ∈ X.ex ∨ X.s₀.heap.objs.size ≤ b) ∧ b ≠ X.env.locals ∧ (∀ x c, X.env.cells.lookup x = some c → c ≠ b) ∧ ∀ p ∈ X.pn ++ pins, p.1 ≠ b) :
    Inv X pins σ H' { s with heap := h', gens := g', drawn := d', toks := t' } := by
  obtain ⟨m, ⟨o, es, ep, ho, r⟩, _⟩ := id I.loc
  obtain ⟨sl, hL⟩ := u.any ho I.free fun z => (hch _ z).2.1 rfl
  exact I.step (ch := ch) hch (fun b o hL hb hc e n => u.keep b o e n (fun z => (List.mem_cons.mp (I.stkSub b z)).elim hL hb) hc) (fun b o _ _ hc e n => u.any e n hc) (fun b o hc e n => u.free b o e n hc) (fun b o hc e => u.there b o e hc) u.tups u.frzs u.tbls (fun m' hm => by
    obtain ⟨o', es', ep', ho', r'⟩ := hm
    rw [ho] at ho'; cases ho'
    exact ⟨_, es', ep', hL, r'⟩) hok hg
theorem Inv.turned {t' : Nat} {it : Addr} (I : Inv X pins σ H s) (k : ∀ b o, b ≠ it → s.heap.get? b = some o → h'.get? b = some o) (hn : H it = none) (hL : it ≠ X.env.locals)
    (h1 : it ∈ X.ex ∨ X.s₀.heap.objs.size ≤ it) (h2 : ∀ x c, X.env.cells.lookup x = some c → c ≠ it) (h3 : ∀ p ∈ X.pn ++ pins, p.1 ≠ it) : Inv X pins σ H { s with heap := h', toks := t' } := by
  have nit : ∀ b u, H b = some u → b ≠ it := fun b u e z => by rw [z, hn] at e; cases e
  refine I.step (g' := s.gens) (d' := s.drawn) (ch := [it]) (fun b hb => ?_) (fun b o _ _ hc e _ => k b o (fun z => hc (by simp [z])) e) (fun b o _ _ hc e _ => ⟨o.slots, k b o (fun z => hc (by simp [z])) e⟩) (fun _ _ _ _ n => n)
    (fun b o hc e => ⟨o, k b o (fun z => hc (by simp [z])) e⟩) (fun _ _ e => e) (fun _ _ _ e => e) (fun b ps e => ⟨#[], by rw [e]; simp⟩) (fun m hm => ?_) (fun b u e => ?_) I.bare
  · have e : b = it := by simpa using hb
    subst e
    exact ⟨h1, hL, h2, h3⟩
  · obtain ⟨o, es, ep, ho, r⟩ := hm
    exact ⟨o, es, ep, k _ o (Ne.symm hL) ho, r⟩
  · refine (I.hok b u e).stay (fun c v hc q => k c v ?_ q) (fun _ q => q) fun _ _ q => q
    rcases hc with z | z
    · rw [z]; exact nit b u e
    · exact nit c _ z
theorem Inv.tok (I : Inv X pins σ H s) (t : Nat) : Inv X pins σ H { s with toks := t } := I.un (h' := s.heap) (t' := t) Un.refl I.hok
theorem Inv.kept {t' : Nat} (I : Inv X pins σ H s) (k : ∀ b u, s.heap.get? b = some u → h'.get? b = some u) : Inv X pins σ H { s with heap := h', toks := t' } := I.un (Un.kept k) (I.hok.kept k)
theorem Inv.laid {a : Addr} {o : HO} {t' : Nat} (I : Inv X pins σ H s) (k : ∀ b u, s.heap.get? b = some u → h'.get? b = some u) (hp : s.heap.objs.size ≤ a) (new : ObjOk X.prog X.w (upd H a o) h' a o) :
    Inv X pins σ (upd H a o) { s with heap := h', toks := t' } := I.un (Un.laid k hp (I.hok.fresh hp)) (I.hok.laid k hp new)
theorem Inv.write {x e : Addr} {o : HO} {t' : Nat} (I : Inv X pins σ H s) (mu : Mut (H x)) (he : e = x ∨ H e = some (.own x)) (k : ∀ b u, b ≠ e → s.heap.get? b = some u → h'.get? b = some u) (heo : ∃ u, h'.get? e = some u)
    (new : ObjOk X.prog X.w (upd H x o) h' x o) : Inv X pins σ (upd H x o) { s with heap := h', toks := t' } := I.un (Un.write mu he k heo) (I.hok.write mu he k heo new)
theorem Inv.pins_of {pins' : List (Addr × Obj)} (I : Inv X pins σ H s) (h : ∀ p ∈ pins', s.heap.get? p.1 = some p.2 ∧ H p.1 = none ∧ p.1 ≠ X.env.locals ∧ p.1 ∉ X.fs ∧ ∀ v, p.2.data ≠ .cell v) : Inv X pins' σ H s :=
  ⟨I.ok, I.os, I.bare, I.base, I.loc, I.cell, I.free, I.freeC, fun p hp => (List.mem_append.mp hp).elim (fun z => I.pin p (List.mem_append_left _ z)) (h p), I.hok, I.len⟩

theorem nodup_ix {N : List Str} (hN : N.Nodup) {i j : Nat} {x : Str} (a : N[i]? = some x) (b : N[j]? = some x) : i = j := by
  obtain ⟨h1, e1⟩ := List.getElem?_eq_some_iff.mp a
  obtain ⟨h2, e2⟩ := List.getElem?_eq_some_iff.mp b
  exact (List.getElem_inj hN).mp (e1.trans e2.symm)

theorem store_ok2 {M : Model} {A : Around} {E : Value → Shared → Prop} {i : Nat} {x : Str} {v : V} {u : Value} {Q : Unit → Shared → Prop} (I : Inv X pins σ H s) (hN : X.N.Nodup) (hi : X.N[i]? = some x) (hx : Loc X.env.scope x) (r : RelV v u)
    (h : ∀ s', Inv X pins (σ.set i (some v)) H s' → (∃ a, Heap.SameBut a s.heap s'.heap ∧ (a = X.env.locals ∨ X.env.cells.lookup x = some a)) → Q () s') (hf : X.fn x = true ∨ X.env.scope.names.lookup x = some .local := by first | exact .inl rfl | exact .inr rfl | assumption) : wpAny M A (storeName X.env x u) Q E s := by
  obtain ⟨m, hn, hl⟩ := id I.loc
  have hcls : (X.env.scope.kind == .class || (X.env.scope.kind == .module && X.env.locals != X.env.globals)) = false := by rw [I.ok.kind]; rfl
  have hiσ : i < σ.length := by rw [I.len]; exact (List.getElem?_eq_some_iff.mp hi).1
  have cne := I.cne
  have tracked : ∀ {a : Addr} {h' : Heap}, (∃ o, s.heap.get? a = some o ∧ H a = none) → Heap.SameBut a s.heap h' → HOk X.prog X.w H h' := fun {a h'} ha hs b ob e => by
    obtain ⟨_, _, hfree⟩ := ha
    refine (I.hok b ob e).stay (fun c w' hc q => (hs.2 c ?_).trans q) (fun _ q => q) fun _ _ q => q
    rintro rfl
    rcases hc with rfl | hc
    · rw [hfree] at e; cases e
    · rw [hfree] at hc; cases hc
  rcases hx with hk | hk
  · refine wpAny_storeName_local hk hn (fun h' hn' hs => ?_) hcls
    obtain ⟨oL, _, _, hoL, _⟩ := id hn
    refine h _ ⟨I.ok, I.os, I.bare, ⟨fun b o e n hb hx => ?_, fun b o e n hb hx => ?_, I.base.free, fun b o e hx => ?_, I.base.tups, I.base.frzs, I.base.tbls⟩, ⟨_, hn', fun j y v' e1 e2 e3 => ?_⟩, fun y c e => ?_, I.free, I.freeC, fun p hp => ?_, tracked ⟨oL, hoL, I.free⟩ hs, by simpa using I.len⟩ ⟨_, hs, .inl rfl⟩
    · exact (hs.2 b (Nat.ne_of_lt (Nat.lt_of_lt_of_le (Heap.lt_size e) I.ok.above))).trans (I.base.keep b o e n hb hx)
    · obtain ⟨sl, e1⟩ := I.base.slot b o e n hb hx
      exact ⟨sl, (hs.2 b (Nat.ne_of_lt (Nat.lt_of_lt_of_le (Heap.lt_size e) I.ok.above))).trans e1⟩
    · obtain ⟨o', e1⟩ := I.base.there b o e hx
      exact ⟨o', (hs.2 b (Nat.ne_of_lt (Nat.lt_of_lt_of_le (Heap.lt_size e) I.ok.above))).trans e1⟩
    · by_cases hj : j = i
      · subst hj
        rw [hi] at e1; cases e1
        rw [List.getElem?_set_self hiσ] at e2
        cases e2
        exact ⟨u, r, .inl ⟨hk, by simp⟩⟩
      · rw [List.getElem?_set_ne (Ne.symm hj)] at e2
        obtain ⟨u', r', q⟩ := hl j y v' e1 e2 e3
        refine ⟨u', r', ?_⟩
        rcases q with ⟨k, e⟩ | ⟨k, c, e, z⟩
        · refine .inl ⟨k, ?_⟩
          have : y ≠ x := fun e => hj (nodup_ix hN e1 (e ▸ hi))
          simp [this, e]
        · exact .inr ⟨k, c, e, z.sameBut hs (cne y c e)⟩
    · obtain ⟨w', z⟩ := I.cell y c e
      exact ⟨w', z.sameBut hs (cne y c e)⟩
    · obtain ⟨e, n, ne, nf, d⟩ := I.pin p hp
      exact ⟨(hs.2 p.1 ne).trans e, n, ne, nf, d⟩
  · have hfn : X.fn x = true := by
      rcases hf with z | z
      · exact z
      · rw [z] at hk; cases hk
    obtain ⟨c, hc⟩ := I.ok.has x (.inl hk)
    obtain ⟨w', z⟩ := I.cell x c hc
    refine wpAny_storeName_cell I.ok.kind hk hc z (fun h' hc' hs => ?_)
    obtain ⟨oc, hoc, hocd⟩ := id z
    refine h { s with heap := h' } ⟨I.ok, I.os, I.bare, ⟨fun b o e n hb hx => ?_, fun b o e n hb hx => ?_, I.base.free, fun b o e hx => ?_, I.base.tups, I.base.frzs, I.base.tbls⟩, ⟨m, hn.sameBut hs (Ne.symm (cne x c hc)), fun j y v' e1 e2 e3 => ?_⟩, fun y c' e => ?_, I.free, I.freeC, fun p hp => ?_, tracked ⟨oc, hoc, I.freeC x c hc⟩ hs, by simpa using I.len⟩ ⟨c, hs, .inr hc⟩
    · exact (hs.2 b (Nat.ne_of_lt (Nat.lt_of_lt_of_le (Heap.lt_size e) (I.ok.cab x c hfn hc)))).trans (I.base.keep b o e n hb hx)
    · obtain ⟨sl, e1⟩ := I.base.slot b o e n hb hx
      exact ⟨sl, (hs.2 b (Nat.ne_of_lt (Nat.lt_of_lt_of_le (Heap.lt_size e) (I.ok.cab x c hfn hc)))).trans e1⟩
    · obtain ⟨o', e1⟩ := I.base.there b o e hx
      exact ⟨o', (hs.2 b (Nat.ne_of_lt (Nat.lt_of_lt_of_le (Heap.lt_size e) (I.ok.cab x c hfn hc)))).trans e1⟩
    · by_cases hj : j = i
      · subst hj
        rw [hi] at e1; cases e1
        rw [List.getElem?_set_self hiσ] at e2
        cases e2
        exact ⟨u, r, .inr ⟨.inl hk, c, hc, hc'⟩⟩
      · rw [List.getElem?_set_ne (Ne.symm hj)] at e2
        obtain ⟨u', r', q⟩ := hl j y v' e1 e2 e3
        refine ⟨u', r', ?_⟩
        rcases q with q | ⟨k, c', e, z'⟩
        · exact .inl q
        · refine .inr ⟨k, c', e, z'.sameBut hs ?_⟩
          rintro rfl
          exact hj (nodup_ix hN e1 (I.ok.inj _ _ _ e hc ▸ hi))
    · by_cases hcc : c' = c
      · subst hcc; exact ⟨_, hc'⟩
      · obtain ⟨w2, z2⟩ := I.cell y c' e
        exact ⟨w2, z2.sameBut hs hcc⟩
    · obtain ⟨e, n, ne, nf, d⟩ := I.pin p hp
      refine ⟨(hs.2 p.1 ?_).trans e, n, ne, nf, d⟩
      intro q
      rw [q, hoc] at e
      have q' : oc = p.2 := Option.some.inj e
      exact d w' (by rw [← q']; exact hocd)
theorem store_ok {M : Model} {A : Around} {E : Value → Shared → Prop} {i : Nat} {x : Str} {v : V} {u : Value} {Q : Unit → Shared → Prop} (I : Inv X pins σ H s) (hN : X.N.Nodup) (hi : X.N[i]? = some x) (hx : Loc X.env.scope x) (r : RelV v u)
    (h : ∀ s', Inv X pins (σ.set i (some v)) H s' → Q () s') (hf : X.fn x = true ∨ X.env.scope.names.lookup x = some .local := by first | exact .inl rfl | exact .inr rfl | assumption) : wpAny M A (storeName X.env x u) Q E s :=
  store_ok2 I hN hi hx r (fun s' I' _ => h s' I') hf
theorem Inv.call' {s' : Shared} {ch : List Addr} (I : Inv X pins σ H s) (ho : s'.os = s.os) (u : Un (frs X.stack) ch H H' s.heap s'.heap) (hok : HOk X.prog X.w H' s'.heap) (hg : AllBare s'.gens)
    (hch : ∀ b ∈ ch, (b ∈ X.ex ∨ X.s₀.heap.objs.size ≤ b) ∧ b ≠ X.env.locals ∧ (∀ x c, X.env.cells.lookup x = some c → c ≠ b) ∧ ∀ p ∈ X.pn ++ pins, p.1 ≠ b) : Inv X pins σ H' s' := by
  obtain ⟨h', g', d', t', o'⟩ := s'
  have e : o' = s.os := ho
  subst e
  exact I.call (g' := g') (t' := t') (d' := d') u hok hg hch
end

noncomputable abbrev XK := Value → Option Addr → Hp → Prop
noncomputable abbrev St := List (Option V)
noncomputable abbrev VK := V → Hp → Prop
noncomputable abbrev TE := St → Hp → VK → Prop
noncomputable abbrev TT := St → Hp → (Bool → Hp → Prop) → Prop
noncomputable abbrev TA := St → Hp → (List V → Hp → Prop) → Prop
structure Ends where
  nx : St → Hp → Prop
  rt : VK
  bk : St → Hp → Prop := fun _ _ => False
  ct : St → Hp → Prop := fun _ _ => False
noncomputable abbrev TS := Ends → St → Hp → Prop

noncomputable def EP (X : Cx) (pins : List (Addr × Obj)) (σ : St) (Q : VK) (u : Value) (s' : Shared) : Prop := ∃ v H', Inv X pins σ H' s' ∧ RelV v u ∧ Q v H'
noncomputable def TP (X : Cx) (pins : List (Addr × Obj)) (σ : St) (Q : Bool → Hp → Prop) (b : Bool) (s' : Shared) : Prop := ∃ H', Inv X pins σ H' s' ∧ Q b H'
noncomputable def AP (X : Cx) (pins : List (Addr × Obj)) (σ : St) (Q : List V → Hp → Prop) (us : List Value) (s' : Shared) : Prop := ∃ vs H', Inv X pins σ H' s' ∧ Vals vs us ∧ Q vs H'
noncomputable def SP (X : Cx) (pins : List (Addr × Obj)) (D : Ends) (f : Flow) (s' : Shared) : Prop :=
  match f with
  | .next => ∃ σ' H', Inv X pins σ' H' s' ∧ D.nx σ' H'
  | .brk => ∃ σ' H', Inv X pins σ' H' s' ∧ D.bk σ' H'
  | .cont => ∃ σ' H', Inv X pins σ' H' s' ∧ D.ct σ' H'
  | .ret u => ∃ v σ' H', Inv X pins σ' H' s' ∧ RelV v u ∧ D.rt v H'

noncomputable def PE (X : Cx) (e : Expr) (t : TE) : Prop :=
  ∀ (pins : List (Addr × Obj)) (s : Shared) (σ : St) (H : Hp) (Q : VK), Inv X pins σ H s → t σ H Q → wpAny (model X.prog X.w) X.A (eval e X.env) (EP X pins σ Q) X.xe s
noncomputable def PT (X : Cx) (e : Expr) (t : TT) : Prop :=
  ∀ (pins : List (Addr × Obj)) (s : Shared) (σ : St) (H : Hp) (Q : Bool → Hp → Prop), Inv X pins σ H s → t σ H Q → wpAny (model X.prog X.w) X.A (isTrue e X.env (eval e X.env)) (TP X pins σ Q) X.xe s
noncomputable def PW (X : Cx) (e : Expr) (t : TT) : Prop :=
  ∀ (whole : Sem Value) (pins : List (Addr × Obj)) (s : Shared) (σ : St) (H : Hp) (Q : Bool → Hp → Prop), Inv X pins σ H s → t σ H Q → wpAny (model X.prog X.w) X.A (isTrue e X.env whole) (TP X pins σ Q) X.xe s
theorem PW.pt {X : Cx} {e : Expr} {t : TT} (h : PW X e t) : PT X e t := h _
noncomputable def PA (X : Cx) (es : List Expr) (t : TA) : Prop :=
  ∀ (pos : Pos) (pins : List (Addr × Obj)) (s : Shared) (σ : St) (H : Hp) (Q : List V → Hp → Prop), Inv X pins σ H s → t σ H Q → wpAny (model X.prog X.w) X.A (spliced (backTo pos (starEach es X.env))) (AP X pins σ Q) X.xe s
noncomputable def PS (X : Cx) (st : Stmt) (t : TS) : Prop :=
  ∀ (pins : List (Addr × Obj)) (s : Shared) (σ : St) (H : Hp) (D : Ends), Inv X pins σ H s → t D σ H → wpAny (model X.prog X.w) X.A (exec st X.env) (SP X pins D) X.xe s
noncomputable def PSs (X : Cx) (st : List Stmt) (t : TS) : Prop :=
  ∀ (pins : List (Addr × Obj)) (s : Shared) (σ : St) (H : Hp) (D : Ends), Inv X pins σ H s → t D σ H → wpAny (model X.prog X.w) X.A (execs st X.env) (SP X pins D) X.xe s
theorem thn {α : Type} {t : Sem α} {Q Q' : α → Shared → Prop} {M : Model} {A : Around} {E : Value → Shared → Prop} {s : Shared} (h : wpAny M A t Q E s) (hQ : ∀ a s, Q a s → Q' a s) : wpAny M A t Q' E s := wpAny_mono h hQ fun _ _ x => x
end L2

namespace L2
open PySem PySem.Spec PyProof.Rows
section
variable {X : Cx}

noncomputable def tVar (i : Nat) : TE := fun σ H Q => ∃ v, σ[i]? = some (some v) ∧ Q v H
noncomputable def tC (v : V) : TE := fun _ H Q => Q v H
theorem pe_var {i : Nat} {x : Str} {pos : Pos} (hN : X.N[i]? = some x) (hv : Vis X.env.scope x) (hd : (x == ("__debug__" : Str)) = false := by decide) (hcd : (x == ("__classdict__" : Str)) = false := by decide) : PE X (.Name x pos) (tVar i) := by
  intro pins s σ H Q I h
  obtain ⟨v, e, h⟩ := h
  obtain ⟨m, hn, hl⟩ := I.loc
  obtain ⟨u, r, l⟩ := hl i x v hN e hv
  have fin : EP X pins σ Q u s := ⟨v, H, I, r, h⟩
  rcases l with ⟨hk, hm⟩ | ⟨hk, c, hc, hcell⟩
  · exact wpAny_Name (wpAny_loadName_local I.ok.kind hk hn hm fin) hd
  · rcases hk with hk | hk
    · exact wpAny_Name (wpAny_loadName_cell I.ok.kind hk hc hcell fin) hd
    · exact wpAny_Name (wpAny_loadName_free I.ok.kind hk hc hcell fin hcd) hd
theorem pe_int {i j pos} : PE X (.Constant (.int i) j pos) (tC (.int i)) := fun _ _ _ H _ I h => wpAny_Constant_int ⟨.int i, H, I.tok _, ⟨_, rfl⟩, h⟩
theorem pe_bl {b j pos} : PE X (.Constant (.bool b) j pos) (tC (.bl b)) := fun _ _ _ H _ I h => Constant_bool ⟨.bl b, H, I, rfl, h⟩
theorem pe_non {j pos} : PE X (.Constant .none j pos) (tC .non) := fun _ _ _ H _ I h => Constant_none ⟨.non, H, I, rfl, h⟩
theorem pe_str {x j pos} : PE X (.Constant (.str x) j pos) (tC (.str x)) := fun _ _ _ H _ I h => Calls.Constant_str ⟨.str x, H, I.tok _, ⟨_, rfl⟩, h⟩

noncomputable def Gl (X : Cx) (x : Str) : Prop := X.env.kindOf x = some .globalImplicit
theorem ld_glob {E : Value → Shared → Prop} {pins : List (Addr × Obj)} {s : Shared} {σ : St} {H : Hp} {x : Str} {u : Value} {pos : Pos} {Q : Value → Shared → Prop} (I : Inv X pins σ H s) (hg : Gl X x) (hm : X.mg x = some u) (h : Q u s)
    (hd : (x == ("__debug__" : Str)) = false := by decide) : wpAny (model X.prog X.w) X.A (eval (.Name x pos) X.env) Q E s :=
  Calls.Name_function_global I.ok.kind hg (Calls.loadGlobal_global (by rw [I.ok.glob]; exact I.mod.glob.keeps I.bk) hm h) hd
theorem ld_blt {E : Value → Shared → Prop} {pins : List (Addr × Obj)} {s : Shared} {σ : St} {H : Hp} {x : Str} {u : Value} {pos : Pos} {Q : Value → Shared → Prop} (I : Inv X pins σ H s) (hg : Gl X x) (hm : X.mg x = none) (hv : bootBuiltins x = some u) (h : Q u s)
    (hn : x ≠ "__name__" := by decide) (hd : (x == ("__debug__" : Str)) = false := by decide) : wpAny (model X.prog X.w) X.A (eval (.Name x pos) X.env) Q E s := by
  obtain ⟨mb, h1, h2⟩ := I.mod.blt
  exact Calls.Name_function_global I.ok.kind hg (Calls.loadGlobal_builtin (by rw [I.ok.glob]; exact I.mod.glob.keeps I.bk) hm (by rw [I.ok.blt]; exact h1.keeps I.bk) ((h2 x hn).trans hv) h) hd
theorem pe_glob {x : Str} {v : V} {u : Value} {pos : Pos} (hg : Gl X x) (hm : X.mg x = some u) (r : RelV v u) (hd : (x == ("__debug__" : Str)) = false := by decide) : PE X (.Name x pos) (tC v) :=
  fun _ _ _ H _ I h => ld_glob I hg hm ⟨v, H, I, r, h⟩ hd
theorem pe_bltn {x : Str} {v : V} {u : Value} {pos : Pos} (hg : Gl X x) (hm : X.mg x = none) (hv : bootBuiltins x = some u) (r : RelV v u) (hn : x ≠ "__name__" := by decide) (hd : (x == ("__debug__" : Str)) = false := by decide) : PE X (.Name x pos) (tC v) :=
  fun _ _ _ H _ I h => ld_blt I hg hm hv ⟨v, H, I, r, h⟩ hn hd

variable {a b : Expr} {ta tb : TE} {pos : Pos}
noncomputable def tB (t : TE) : TT := fun σ H Q => t σ H fun x H1 => ∃ c, x = .bl c ∧ Q c H1
theorem pt_val {e : Expr} {t : TE} (h : PE X e t) (he : ∀ whole, isTrue e X.env whole = (do let v ← whole; standAt e.pos; holding [v] (truthy v)) := by intro _; rfl) : PT X e (tB t) := by
  intro pins s σ H Q I hw
  refine isTrue_plain (thn (h pins s σ H _ I hw) fun v s1 ⟨x, H1, I1, r1, q1⟩ => ?_) (he _)
  obtain ⟨d, rfl, q⟩ := q1
  cases r1
  exact wpAny_truthy_bool ⟨H1, I1, q⟩

variable {tA tB' : TT} {rest : List Expr}
noncomputable def tAnd (t u : TT) : TT := fun σ H Q => t σ H fun c H1 => if c = true then u σ H1 Q else Q false H1
noncomputable def tOr (t u : TT) : TT := fun σ H Q => t σ H fun c H1 => if c = true then Q true H1 else u σ H1 Q
noncomputable def tNot (t : TT) : TT := fun σ H Q => t σ H fun c H1 => Q (!c) H1
theorem pw_and1 (ha : PT X a tA) : PW X (.BoolOp .And [a] pos) tA := by
  intro wh pins s σ H Q I h
  refine isTrue_and (thn (ha pins s σ H Q I h) fun c s1 e => ?_)
  cases c with
  | true => exact isTrue_and_nil e
  | false => exact e
theorem pw_or1 (ha : PT X a tA) : PW X (.BoolOp .Or [a] pos) tA := by
  intro wh pins s σ H Q I h
  refine isTrue_or (thn (ha pins s σ H Q I h) fun c s1 e => ?_)
  cases c with
  | false => exact isTrue_or_nil e
  | true => exact e
theorem pw_and (ha : PT X a tA) (hb : PW X (.BoolOp .And (b :: rest) pos) tB') : PW X (.BoolOp .And (a :: b :: rest) pos) (tAnd tA tB') := by
  intro wh pins s σ H Q I h
  refine isTrue_and (thn (ha pins s σ H _ I h) fun c s1 ⟨H1, I1, q1⟩ => ?_)
  cases c with
  | true => exact hb wh pins s1 σ H1 Q I1 q1
  | false => exact ⟨H1, I1, q1⟩
theorem pw_or (ha : PT X a tA) (hb : PW X (.BoolOp .Or (b :: rest) pos) tB') : PW X (.BoolOp .Or (a :: b :: rest) pos) (tOr tA tB') := by
  intro wh pins s σ H Q I h
  refine isTrue_or (thn (ha pins s σ H _ I h) fun c s1 ⟨H1, I1, q1⟩ => ?_)
  cases c with
  | true => exact ⟨H1, I1, q1⟩
  | false => exact hb wh pins s1 σ H1 Q I1 q1
theorem pt_not (ha : PT X a tA) : PT X (.UnaryOp .Not a pos) (tNot tA) := by
  intro pins s σ H Q I h
  exact isTrue_not (ha pins s σ H (fun c H1 => Q (!c) H1) I h)
noncomputable def tAndV (ta tb : TE) : TE := fun σ H Q => ta σ H fun x H1 => ∃ c, x = .bl c ∧ if c = true then tb σ H1 Q else Q (.bl false) H1
noncomputable def tNotV (ta : TE) : TE := fun σ H Q => ta σ H fun x H1 => ∃ c, x = .bl c ∧ Q (.bl (!c)) H1
theorem pe_one {op} {t : TE} (h : PE X a t) : PE X (.BoolOp op [a] pos) t := fun pins s σ H Q I hw => BoolOp_one (h pins s σ H Q I hw)
theorem pe_and (ha : PE X a ta) (hb : PE X (.BoolOp .And (b :: rest) pos) tb) : PE X (.BoolOp .And (a :: b :: rest) pos) (tAndV ta tb) := by
  intro pins s σ H Q I h
  refine BoolOp_and (thn (ha pins s σ H _ I h) fun v s1 ⟨x, H1, I1, r1, q1⟩ => ?_)
  obtain ⟨c, rfl, q1⟩ := q1
  cases r1
  refine wpAny_truthy_bool ?_
  cases c with
  | true => exact hb pins s1 σ H1 Q I1 q1
  | false => exact ⟨.bl false, H1, I1, rfl, q1⟩
theorem pe_not (ha : PE X a ta) : PE X (.UnaryOp .Not a pos) (tNotV ta) := by
  intro pins s σ H Q I h
  refine UnaryOp_ (thn (ha pins s σ H _ I h) fun v s1 ⟨x, H1, I1, r1, q1⟩ => ?_)
  obtain ⟨c, rfl, q1⟩ := q1
  cases r1
  exact not_of (wpAny_truthy_bool ⟨.bl (!c), H1, I1, rfl, q1⟩)
end
end L2

namespace L2
open PySem PySem.Spec PyProof.Rows

noncomputable def SqL (K : PySem.W.Frag) (H : Hp) (a : Addr) (xs : List V) : Prop :=
  Rd H a (.lst xs) ∨
    ∃ (o : Obj) (its : Array Value) (n : Nat), K.lookup a = some o ∧ o.cls = .type "list" ∧ o.dict = none ∧ o.data = .seq its n ∧ its.size ≤ sizeLine ∧ Vals xs its.toList
noncomputable def SqT (K : PySem.W.Frag) (H : Hp) (a : Addr) (xs : List V) : Prop :=
  Rd H a (.tup xs) ∨
    ∃ (o : Obj) (its : Array Value) (n : Nat), K.lookup a = some o ∧ o.cls = .type "tuple" ∧ o.data = .seq its n ∧ its.size ≤ sizeLine ∧ Vals xs its.toList
noncomputable def absV : Value → Option V
  | .none => some .non
  | .bool b => some (.bl b)
  | .int i _ => some (.int i)
  | .str x _ => some (.str x)
  | .bytes b _ => some (.byt b)
  | .float b _ => some (.flt b)
  | .ref a => some (.ref a)
  | .type n => some (.ty n)
  | _ => none
theorem RelV.abs {x : V} {u : Value} (r : RelV x u) : absV u = some x := by
  cases x with
  | non => cases r; rfl
  | bl _ => cases r; rfl
  | int _ => obtain ⟨t, rfl⟩ := r; rfl
  | str _ => obtain ⟨t, rfl⟩ := r; rfl
  | byt _ => obtain ⟨t, rfl⟩ := r; rfl
  | flt _ => obtain ⟨t, rfl⟩ := r; rfl
  | ref _ => cases r; rfl
  | ty _ => cases r; rfl
theorem RelV.inj {x y : V} {u : Value} (r : RelV x u) (q : RelV y u) : x = y := Option.some.inj (r.abs.symm.trans q.abs)
theorem Vals.inj : ∀ {xs ys : List V} {us : List Value}, Vals xs us → Vals ys us → xs = ys
  | _, _, _, .nil, .nil => rfl
  | _, _, _, .cons r t, .cons r' t' => by rw [r.inj r', Vals.inj t t']
section
variable {X : Cx} {pins : List (Addr × Obj)} {σ : St} {H : Hp} {s : Shared} {a : Addr} {xs ys : List V}
theorem SqL.of {K : PySem.W.Frag} (h : H a = some (.lst xs)) : SqL K H a xs := .inl (.inl h)
theorem SqT.of {K : PySem.W.Frag} (h : H a = some (.tup xs)) : SqT K H a xs := .inl (.inl h)
theorem Inv.list (I : Inv X pins σ H s) (h : SqL X.K H a xs) : ∃ its : List Value, Vals xs its ∧ PlainL s.heap a its.toArray ∧ xs.length ≤ sizeLine := by
  rcases h with h | ⟨o, its, n, hk, hc, hd, hs, hz, r⟩
  · obtain ⟨z, its, n, r, e⟩ := h.ok I.hok
    exact ⟨its, r, ⟨_, n, e, rfl, rfl, rfl⟩, z⟩
  · refine ⟨its.toList, r, ⟨o, n, I.kIn a o hk, hc, hd, by simpa using hs⟩, ?_⟩
    have e := r.length
    simp only [Array.length_toList] at e
    omega
theorem Inv.tuple (I : Inv X pins σ H s) (h : SqT X.K H a xs) : ∃ its : List Value, Vals xs its ∧ IsTup s.heap a its.toArray ∧ xs.length ≤ sizeLine := by
  rcases h with h | ⟨o, its, n, hk, hc, hs, hz, r⟩
  · obtain ⟨z, its, r, p⟩ := h.ok I.hok
    exact ⟨its, r, p, z⟩
  · refine ⟨its.toList, r, ⟨o, I.kIn a o hk, hc, n, by simpa using hs⟩, ?_⟩
    have e := r.length
    simp only [Array.length_toList] at e
    omega
theorem Inv.list_inj (I : Inv X pins σ H s) (h : SqL X.K H a xs) (h' : SqL X.K H a ys) : xs = ys := by
  obtain ⟨its, r, ⟨o, n, e, _, _, d⟩, _⟩ := I.list h
  obtain ⟨its', r', ⟨o', n', e', _, _, d'⟩, _⟩ := I.list h'
  rw [e] at e'; cases e'
  rw [d] at d'
  injection d' with d1 _
  have : its = its' := by simpa using congrArg Array.toList d1
  subst this
  exact r.inj r'
end

noncomputable abbrev Cx.wish (X : Cx) (E : Value → Shared → Prop) : Cx := { X with xe := E }
noncomputable abbrev Cx.nox (X : Cx) : Cx := X.wish fun _ _ => False
theorem Cx.Ok.wish {X : Cx} (ok : X.Ok) (E : Value → Shared → Prop) : (X.wish E).Ok :=
  ⟨ok.mod, ok.kind, ok.glob, ok.blt, ok.above, ok.inj, ok.has, ok.cab, ok.hd, ok.frames, ok.stk, ok.exf, ok.bs, ok.bsz, ok.noex, ok.exfs, ok.funs, ok.frf⟩
theorem Cx.Ok.unwish {X : Cx} {E : Value → Shared → Prop} (ok : (X.wish E).Ok) : X.Ok :=
  ⟨ok.mod, ok.kind, ok.glob, ok.blt, ok.above, ok.inj, ok.has, ok.cab, ok.hd, ok.frames, ok.stk, ok.exf, ok.bs, ok.bsz, ok.noex, ok.exfs, ok.funs, ok.frf⟩
section
variable {X : Cx} {pins : List (Addr × Obj)} {σ : St} {H : Hp} {s : Shared} {E : Value → Shared → Prop}
theorem Inv.wish (I : Inv X pins σ H s) (E : Value → Shared → Prop) : Inv (X.wish E) pins σ H s := ⟨I.ok.wish E, I.os, I.bare, I.base, I.loc, I.cell, I.free, I.freeC, I.pin, I.hok, I.len⟩
theorem Inv.unwish (I : Inv (X.wish E) pins σ H s) : Inv X pins σ H s := ⟨I.ok.unwish, I.os, I.bare, I.base, I.loc, I.cell, I.free, I.freeC, I.pin, I.hok, I.len⟩
theorem SP.unwish {D : Ends} {f : Flow} {s' : Shared} (h : SP (X.wish E) pins D f s') : SP X pins D f s' := by
  cases f with
  | next => obtain ⟨σ', H', I, q⟩ := h; exact ⟨σ', H', I.unwish, q⟩
  | brk => obtain ⟨σ', H', I, q⟩ := h; exact ⟨σ', H', I.unwish, q⟩
  | cont => obtain ⟨σ', H', I, q⟩ := h; exact ⟨σ', H', I.unwish, q⟩
  | ret u => obtain ⟨v, σ', H', I, r, q⟩ := h; exact ⟨v, σ', H', I.unwish, r, q⟩
theorem PE.nox {e : Expr} {t : TE} (h : PE X.nox e t) : PE X e t := fun pins s σ H Q I hw =>
  wpAny_mono (h pins s σ H Q (I.wish _) hw) (fun _ _ ⟨v, H', I', r, q⟩ => ⟨v, H', I'.unwish, r, q⟩) fun _ _ z => False.elim z
theorem PT.nox {e : Expr} {t : TT} (h : PT X.nox e t) : PT X e t := fun pins s σ H Q I hw =>
  wpAny_mono (h pins s σ H Q (I.wish _) hw) (fun _ _ ⟨H', I', q⟩ => ⟨H', I'.unwish, q⟩) fun _ _ z => False.elim z
theorem PSs.nox {st : List Stmt} {t : TS} (h : PSs X.nox st t) : PSs X st t := fun pins s σ H D I hw =>
  wpAny_mono (h pins s σ H D (I.wish _) hw) (fun _ _ q => q.unwish) fun _ _ z => False.elim z
end

section
variable {X : Cx} {st : Stmt} {rest : List Stmt} {t u : TS} {e : Expr} {te : TE} {pos : Pos}
noncomputable def tNext : TS := fun D σ H => D.nx σ H
noncomputable def tSeq (t u : TS) : TS := fun D σ H => t { D with nx := u D } σ H
theorem pss_nil : PSs X [] tNext := fun _ _ σ H _ I h => wpAny_execs_nil ⟨σ, H, I, h⟩
theorem pss_cons (h1 : PS X st t) (h2 : PSs X rest u) : PSs X (st :: rest) (tSeq t u) := by
  intro pins s σ H D I h
  refine wpAny_execs_cons (thn (h1 pins s σ H { D with nx := u D } I h) fun f s1 q => ?_)
  cases f with
  | next =>
    obtain ⟨σ', H', I', q⟩ := q
    exact h2 pins s1 σ' H' D I' q
  | ret v => exact q
  | brk => exact q
  | cont => exact q
theorem pss_one (h1 : PS X st t) : PSs X [st] t := by
  intro pins s σ H D I h
  refine wpAny_execs_cons (thn (h1 pins s σ H D I h) fun f s1 q => ?_)
  cases f with
  | next => exact wpAny_execs_nil q
  | ret v => exact q
  | brk => exact q
  | cont => exact q
theorem Inv.quiet {pins : List (Addr × Obj)} {σ : St} {H : Hp} {s : Shared} (I : Inv X pins σ H s) : interactive X.env = false := by simp [interactive, I.ok.kind]
noncomputable def tDrop (te : TE) : TS := fun D σ H => te σ H fun _ H1 => D.nx σ H1
theorem ps_expr (he : PE X e te) (hs : swapsWith e none pos.line X.env = pure false := by rfl) : PS X (.Expr e pos) (tDrop te) := by
  intro pins s σ H D I h
  exact wpAny_Expr_any (thn (he pins s σ H _ I h) fun v s1 ⟨x, H1, I1, r1, q1⟩ => ⟨σ, H1, I1, q1⟩) I.quiet hs
noncomputable def tRet (te : TE) : TS := fun D σ H => te σ H D.rt
theorem ps_ret (he : PE X e te) : PS X (.Return (some e) pos) (tRet te) := by
  intro pins s σ H D I h
  exact wpAny_Return_some (thn (he pins s σ H _ I h) fun v s1 ⟨x, H1, I1, r1, q1⟩ => ⟨x, σ, H1, I1, r1, q1⟩)
noncomputable def tIfS (c : TT) (t u : TS) : TS := fun D σ H => c σ H fun b H1 => if b = true then t D σ H1 else u D σ H1
theorem ps_if {c : Expr} {a b : List Stmt} {tc : TT} (hc : PT X c tc) (ha : PSs X a t) (hb : PSs X b u) : PS X (.If c a b pos) (tIfS tc t u) := by
  intro pins s σ H D I h
  refine wpAny_If (thn (hc pins s σ H _ I h) fun d s1 ⟨H1, I1, q1⟩ => ?_)
  cases d with
  | true => exact ha pins s1 σ H1 D I1 q1
  | false => exact hb pins s1 σ H1 D I1 q1
end

noncomputable abbrev TG := V → St → Hp → (St → Hp → Prop) → Prop
noncomputable abbrev TGs := List V → St → Hp → (St → Hp → Prop) → Prop
noncomputable def PG (X : Cx) (target : Expr) (t : TG) : Prop :=
  ∀ (pins : List (Addr × Obj)) (s : Shared) (σ : St) (H : Hp) (v : V) (u : Value) (Q : St → Hp → Prop), Inv X pins σ H s → RelV v u → t v σ H Q →
    wpAny (model X.prog X.w) X.A (assign target X.env u) (fun _ s' => ∃ σ' H', Inv X pins σ' H' s' ∧ Q σ' H') X.xe s
noncomputable def PGs (X : Cx) (ts : List Expr) (t : TGs) : Prop :=
  ∀ (pins : List (Addr × Obj)) (s : Shared) (σ : St) (H : Hp) (vs : List V) (us : List Value) (Q : St → Hp → Prop), Inv X pins σ H s → Vals vs us → t vs σ H Q →
    wpAny (model X.prog X.w) X.A (assignInOrder ((assignEach ts X.env).map (·.2)) us) (fun _ s' => ∃ σ' H', Inv X pins σ' H' s' ∧ Q σ' H') X.xe s
section
variable {X : Cx} {pos : Pos}
noncomputable def gName (i : Nat) : TG := fun v σ H Q => Q (σ.set i (some v)) H
theorem pg_name {i : Nat} {x : Str} (hN : X.N.Nodup) (hi : X.N[i]? = some x) (hx : Loc X.env.scope x) (hf : X.fn x = true ∨ X.env.scope.names.lookup x = some .local := by first | exact .inl rfl | exact .inr rfl | assumption) : PG X (.Name x pos) (gName i) := by
  intro pins s σ H v u Q I r h
  exact wpAny_assign_Name (store_ok I hN hi hx r (fun s' I' => ⟨_, H, I', h⟩) hf)
noncomputable def gNil : TGs := fun vs σ H Q => vs = [] ∧ Q σ H
noncomputable def gCons (t : TG) (u : TGs) : TGs := fun vs σ H Q => ∃ v r, vs = v :: r ∧ t v σ H fun σ' H' => u r σ' H' Q
theorem pgs_nil : PGs X [] gNil := by
  intro pins s σ H vs us Q I r h
  obtain ⟨e, h⟩ := h
  subst e
  cases r
  exact assignInOrder_nil ⟨σ, H, I, h⟩
theorem pgs_cons {e : Expr} {es : List Expr} {t : TG} {u : TGs} (h1 : PG X e t) (h2 : PGs X es u)
    (hs : (assignEach (e :: es) X.env).map (·.2) = assign e X.env :: (assignEach es X.env).map (·.2) := by rfl) : PGs X (e :: es) (gCons t u) := by
  intro pins s σ H vs us Q I r h
  obtain ⟨v, vr, e1, h⟩ := h
  subst e1
  cases r with
  | cons r rr =>
    rw [hs]
    refine assignInOrder_cons (thn (h1 pins s σ H _ _ _ I r h) fun _ s1 ⟨σ1, H1, I1, q1⟩ => ?_)
    exact h2 pins s1 σ1 H1 _ _ Q I1 rr q1
noncomputable def gTup (K : PySem.W.Frag) (n : Nat) (t : TGs) : TG := fun v σ H Q => ∃ a xs, v = .ref a ∧ SqT K H a xs ∧ xs.length = n ∧ t xs σ H Q
theorem pg_tup {es : List Expr} {k : Nat} {t : TGs} {n : Nat} (hc : X.A.handled = none) (h : PGs X es t)
    (hn : (assignEach es X.env).length = n := by rfl) (hst : (assignEach es X.env).findIdx? (·.1) = none := by rfl) : PG X (.Tuple es k pos) (gTup X.K n t) := by
  intro pins s σ H v u Q I r hw
  obtain ⟨a, xs, e1, hq, hl, hw⟩ := hw
  subst e1
  cases r
  obtain ⟨its, rv, ht, hz⟩ := I.tuple hq
  refine assign_Tuple_tuple hc ht (by simp [hn, ← hl, rv.length]) hst fun h' hx => ?_
  have I1 : Inv X pins σ H { s with heap := h' } := I.kept (t' := s.toks) fun b o e => hx b o (Nat.ne_of_lt (Heap.lt_size e)) e
  exact h pins _ σ H xs _ Q I1 (by simpa using rv) hw
noncomputable def tAsg (te : TE) (g : TG) : TS := fun D σ H => te σ H fun x H1 => g x σ H1 D.nx
theorem ps_asg {tg e : Expr} {te : TE} {g : TG} (he : PE X e te) (hg : PG X tg g) (hs : swapsWithSole [tg] e pos.line X.env = pure false := by rfl) (hw : swappedStores [tg] e X.env = pure none := by rfl)
    (h1 : (assignEach [tg] X.env).map (·.2) = [assign tg X.env] := by rfl) : PS X (.Assign [tg] e pos) (tAsg te g) := by
  intro pins s σ H D I h
  refine wpAny_Assign_stores (thn (he pins s σ H _ I h) fun v s1 ⟨x, H1, I1, r1, q1⟩ => ?_) hs hw
  rw [h1]
  exact thn (hg pins s1 σ H1 x v _ I1 r1 q1) fun _ s2 q => q
theorem ps_set {i : Nat} {x : Str} {e : Expr} {te : TE} {pos' : Pos} (hN : X.N.Nodup) (hi : X.N[i]? = some x) (hx : Loc X.env.scope x) (he : PE X e te) (hs : swapsWith e (some (.Name x pos')) pos.line X.env = pure false := by rfl) (hf : X.fn x = true ∨ X.env.scope.names.lookup x = some .local := by first | exact .inl rfl | exact .inr rfl | assumption) :
    PS X (.Assign [.Name x pos'] e pos) (tAsg te (gName i)) := by
  intro pins s σ H D I h
  refine wpAny_Assign_Name (thn (he pins s σ H _ I h) fun v s1 ⟨y, H1, I1, r1, q1⟩ => ?_) hs
  exact store_ok I1 hN hi hx r1 (fun s2 I2 => ⟨_, H1, I2, q1⟩) hf
end

section
variable {X : Cx} {pos : Pos}
end

structure It where
  go : Nat → Hp → Prop
  yld : Nat → Hp → V → Hp → Prop
  stop : Nat → Hp → Prop
noncomputable def FpOk (X : Cx) (pins : List (Addr × Obj)) (H : Hp) (b : Addr) : Prop :=
  H b = none ∧ b ≠ X.env.locals ∧ b ∉ X.fs ∧ (b ∈ X.ex ∨ X.s₀.heap.objs.size ≤ b) ∧ (∀ x c, X.env.cells.lookup x = some c → c ≠ b) ∧ ∀ p ∈ X.pn ++ pins, p.1 ≠ b
theorem Inv.fpOk {X : Cx} {pins : List (Addr × Obj)} {σ : St} {H H' : Hp} {s : Shared} {b : Addr} (I : Inv X pins σ H s) (hb : s.heap.objs.size ≤ b) (hn : H' b = none) : FpOk X pins H' b := by
  refine ⟨hn, Nat.ne_of_gt (Nat.lt_of_lt_of_le I.lt hb), I.nofs hb, .inr (Nat.le_trans I.sz hb), fun x c e z => ?_, fun p hp z => ?_⟩
  · obtain ⟨v, q⟩ := I.cell x c e
    exact absurd (Nat.lt_of_lt_of_le q.lt (by rw [z]; exact hb)) (Nat.lt_irrefl _)
  · exact absurd (Nat.lt_of_lt_of_le (Heap.lt_size (I.pin p hp).1) (by rw [z]; exact hb)) (Nat.lt_irrefl _)
structure Turn (P : Program) (w : World) (K : PySem.W.Frag) (tg : Expr) (J : It) (fp : List Addr) (it : Addr) (tn : Nat → Heap → Prop) : Prop where
  mem : it ∈ fp
  obj : ∀ i h, tn i h → ∀ b ∈ fp, ∃ o, h.get? b = some o ∧ ∀ v, o.data ≠ .cell v
  keep : ∀ i h h', tn i h → (∀ b ∈ fp, ∀ o, h.get? b = some o → h'.get? b = some o) → tn i h'
  item : ∀ (X : Cx), X.prog = P → X.w = w → X.K = K → X.calm = true → ∀ (i : Nat) (pins : List (Addr × Obj)) (s : Shared) (σ : St) (H : Hp) (E : Value → Shared → Prop), Inv X pins σ H s → (∀ b ∈ fp, FpOk X pins H b) → tn i s.heap → J.go i H →
    wpAny (model P w) X.A (pyNext (.ref it)) (fun r s1 => ∃ u, r = some u ∧
      wpAny (model P w) X.A (letOwnedTupleGo tg (.ref it) u) (fun _ s2 => ∃ x H', Inv X pins σ H' s2 ∧ RelV x u ∧ J.yld i H x H' ∧ tn (i + 1) s2.heap ∧ ∀ b ∈ fp, H' b = none) E s1) E s
  done : ∀ (X : Cx), X.prog = P → X.w = w → X.K = K → X.calm = true → ∀ (i : Nat) (pins : List (Addr × Obj)) (s : Shared) (σ : St) (H : Hp) (E : Value → Shared → Prop), Inv X pins σ H s → (∀ b ∈ fp, FpOk X pins H b) → tn i s.heap → J.stop i H →
    wpAny (model P w) X.A (pyNext (.ref it)) (fun r s1 => r = none ∧ Inv X pins σ H s1) E s
  self : ∀ (A : Around) (i : Nat) (s : Shared) (Q : Value → Shared → Prop) (E : Value → Shared → Prop), tn i s.heap → Q (.ref it) s → wpAny (model P w) A (pyIter (.ref it)) Q E s
noncomputable abbrev TI := St → Hp → (It → Hp → Prop) → Prop
noncomputable def PIE (X : Cx) (pins : List (Addr × Obj)) (σ : St) (tg : Expr) (R : It → Hp → Prop) (itv : Value) (s2 : Shared) : Prop :=
  ∃ (it : Addr) (fp : List Addr) (tn : Nat → Heap → Prop) (J : It) (H' : Hp), itv = .ref it ∧ Inv X pins σ H' s2 ∧ Turn X.prog X.w X.K tg J fp it tn ∧ tn 0 s2.heap ∧ (∀ b ∈ fp, FpOk X pins H' b) ∧ R J H'
noncomputable def PI (X : Cx) (tg iter : Expr) (wi : TI) : Prop :=
  ∀ (pins : List (Addr × Obj)) (s : Shared) (σ : St) (H : Hp) (R : It → Hp → Prop), Inv X pins σ H s → wi σ H R →
    wpAny (model X.prog X.w) X.A (eval iter X.env) (fun v s1 => wpAny (model X.prog X.w) X.A (pyIter v) (PIE X pins σ tg R) X.xe s1) X.xe s

theorem go_of {M : Model} {A : Around} {E : Value → Shared → Prop} {s : Shared} {tg : Expr} {it : Addr} {u : Value} {o : Obj} {n : String} {vs : Array Value} {Q : Unit → Shared → Prop} (ho : s.heap.get? it = some o) (hc : o.cls = .type n) (hd : o.data = .fields vs)
    (hn : ["enumerate", "zip", "dict_itemiterator", "dict_reverseitemiterator", "odict_iterator", "itertools.zip_longest", "itertools.pairwise"].contains n = false) (hQ : Q () s) : wpAny M A (letOwnedTupleGo tg (.ref it) u) Q E s := by
  unfold letOwnedTupleGo
  cases tg <;> first
    | exact wpAny_pure hQ
    | (cases u <;> first
        | exact wpAny_pure hQ
        | (refine wpAny_bind (wpAny_load ho ?_)
           rw [hc, hd]
           show wpAny M A (if (["enumerate", "zip", "dict_itemiterator", "dict_reverseitemiterator", "odict_iterator", "itertools.zip_longest", "itertools.pairwise"].contains n && vs[0]? == some (rawInt _)) = true then _ else _) Q E s
           rw [if_neg (by intro h; rw [hn, Bool.false_and] at h; cases h)]
           exact wpAny_pure hQ))

noncomputable def Itl (K : PySem.W.Frag) (a : Addr) : It :=
  ⟨fun i H => ∃ xs x, SqL K H a xs ∧ xs[i]? = some x, fun i H x H' => H' = H ∧ ∀ xs, SqL K H a xs → xs[i]? = some x, fun i H => ∃ xs, SqL K H a xs ∧ xs.length ≤ i⟩
noncomputable def Itr (lo : Int) (n : Nat) : It := ⟨fun i _ => i < n, fun i H x H' => H' = H ∧ x = .int (lo + i), fun i _ => n ≤ i⟩
theorem turn_list {P : Program} {w : World} {K : PySem.W.Frag} {tg : Expr} (a it : Addr) : Turn P w K tg (Itl K a) [it] it (fun i h => h.IsListIter it a i) where
  mem := by simp
  obj := fun i h st b hb => by
    have e : b = it := by simpa using hb
    subst e
    obtain ⟨o, e, c, d⟩ := st
    exact ⟨o, e, fun v z => by rw [d] at z; cases z⟩
  keep := fun i h h' st k => st.at fun o e => k it (by simp) o e
  item := by
    intro X hP hw hK hc i pins s σ H E I hf st hg
    subst hP hw hK
    obtain ⟨xs, x, hq, hx⟩ := hg
    obtain ⟨its, rv, p, hz⟩ := I.list hq
    obtain ⟨u, hu, ru⟩ := rv.get hx
    obtain ⟨f0, f1, f2, f3, f4, f5⟩ := hf it (by simp)
    refine wpAny_pyNext_list_item st p.isList (x := u) (by simpa using hu) fun h' st' sb => ?_
    have I1 : Inv X pins σ H { s with heap := h' } := I.turned (t' := s.toks) (fun b o hb e => (sb.2 b hb).trans e) f0 f1 f3 f4 f5
    obtain ⟨o, e, c, d⟩ := id st'
    exact ⟨u, rfl, go_of (s := { s with heap := h' }) e c d (by decide) ⟨x, H, I1, ru, ⟨rfl, fun ys hy => by rw [I.list_inj hy hq]; exact hx⟩, st', fun b hb => (hf b hb).1⟩⟩
  done := by
    intro X hP hw hK hc i pins s σ H E I hf st hg
    subst hP hw hK
    obtain ⟨xs, hq, hx⟩ := hg
    obtain ⟨its, rv, p, hz⟩ := I.list hq
    obtain ⟨f0, f1, f2, f3, f4, f5⟩ := hf it (by simp)
    have hl := rv.length
    exact end_list (I.hs hc) st p.isList (by simp; omega) (I.hne hc f3) fun h' eb => ⟨rfl, I.turned (t' := s.toks) (fun b o hb e => eb b o hb e) f0 f1 f3 f4 f5⟩
  self := fun _ _ _ _ _ st h => wpAny_pyIter_listiter st h
theorem turn_range {P : Program} {w : World} {K : PySem.W.Frag} {tg : Expr} (it : Addr) (lo : Int) (n : Nat) : Turn P w K tg (Itr lo n) [it] it (fun i h => IsRangeIter h it (lo + (i : Nat) * 1) ((n : Int) - (i : Nat)) 1) where
  mem := by simp
  obj := fun i h st b hb => by
    have e : b = it := by simpa using hb
    subst e
    exact ⟨_, st, fun v z => by
      have z' : Data.fields _ = Data.cell v := z
      cases z'⟩
  keep := fun i h h' st k => k it (by simp) _ st
  item := by
    intro X hP hw hK hc i pins s σ H E I hf st hg
    subst hP hw hK
    obtain ⟨f0, f1, f2, f3, f4, f5⟩ := hf it (by simp)
    refine wpAny_pyNext_range_item st (by have : i < n := hg; omega) fun h' st' sb => ?_
    have st' : IsRangeIter h' it (lo + ((i + 1 : Nat) : Int) * 1) ((n : Int) - ((i + 1 : Nat) : Int)) 1 := by
      have e1 : lo + (i : Int) * 1 + 1 = lo + ((i + 1 : Nat) : Int) * 1 := by omega
      have e2 : (n : Int) - (i : Int) - 1 = (n : Int) - ((i + 1 : Nat) : Int) := by omega
      rw [← e1, ← e2]; exact st'
    have I1 : Inv X pins σ H { s with heap := h', toks := s.toks + 1 } := I.turned (fun b o hb e => (sb.2 b hb).trans e) f0 f1 f3 f4 f5
    refine ⟨_, rfl, go_of (s := { s with heap := h', toks := s.toks + 1 }) (n := "range_iterator") st' rfl rfl (by decide) ⟨.int (lo + i), H, I1, ⟨s.toks, ?_⟩, ⟨rfl, rfl⟩, st', fun b hb => (hf b hb).1⟩⟩
    rw [Int.mul_one]
  done := by
    intro X hP hw hK hc i pins s σ H E I hf st hg
    subst hP hw hK
    obtain ⟨f0, f1, f2, f3, f4, f5⟩ := hf it (by simp)
    exact end_range (I.hs hc) st (by have : n ≤ i := hg; omega) fun h' eb => ⟨rfl, I.turned (t' := s.toks) (fun b o hb e => eb b o hb e) f0 f1 f3 f4 f5⟩
  self := fun _ _ _ _ _ st h => wpAny_pyIter_rangeiter st h
end L2

namespace L2
open PySem PySem.Spec PyProof.Rows
section
variable {X : Cx} {tg : Expr}
noncomputable def iList (K : PySem.W.Frag) (tl : TE) : TI := fun σ H R => tl σ H fun x H1 => ∃ a, x = .ref a ∧ (∃ xs, SqL K H1 a xs) ∧ R (Itl K a) H1
theorem pi_list {l : Expr} {tl : TE} (hl : PE X l tl) : PI X tg l (iList X.K tl) := by
  intro pins s σ H R I h
  refine thn (hl pins s σ H _ I h) fun v s1 ⟨x, H1, I1, r1, q1⟩ => ?_
  obtain ⟨a, e, ⟨xs, hq⟩, q⟩ := q1
  subst e
  cases r1
  obtain ⟨its, rv, p, hz⟩ := I1.list hq
  refine wpAny_pyIter_list p.isList ?_
  refine ⟨s1.heap.objs.size, [s1.heap.objs.size], _, _, H1, rfl, I1.kept (t' := s1.toks) fun b o e => Heap.get?_push_of_some _ e, turn_list a _, ⟨_, Heap.get?_push_size _ rfl, rfl, rfl⟩, fun b hb => ?_, q⟩
  have e : b = s1.heap.objs.size := by simpa using hb
  subst e
  exact I1.fpOk (Nat.le_refl _) (I1.hok.fresh (Nat.le_refl _))
theorem range_it {pins : List (Addr × Obj)} {σ : St} {H : Hp} {s : Shared} {R : It → Hp → Prop} {E : Value → Shared → Prop} {lo hi : Int} {t u v : Tok} {tk : Nat} (I : Inv X pins σ H s) (h1 : -(2 ^ 62) ≤ lo) (h2 : lo < 2 ^ 62) (h3 : -(2 ^ 62) ≤ hi) (h4 : hi < 2 ^ 62)
    (q : R (Itr lo (hi - lo).toNat) H) : wpAny (model X.prog X.w) X.A (pyIter (.ref s.heap.objs.size)) (PIE X pins σ tg R) E { s with heap := s.heap.push { cls := .type "range", data := .fields #[.int lo t, .int hi u, .int 1 v] }, toks := tk } := by
  refine wpAny_pyIter_range (IsRange.new ..) (small_one h1 h2 h3 h4) ?_
  have I1 : Inv X pins σ H { s with heap := s.heap.push { cls := .type "range", data := .fields #[.int lo t, .int hi u, .int 1 v] }, toks := tk } := I.kept fun b o e => Heap.get?_push_of_some _ e
  refine ⟨(s.heap.push { cls := .type "range", data := .fields #[.int lo t, .int hi u, .int 1 v] }).objs.size, [(s.heap.push { cls := .type "range", data := .fields #[.int lo t, .int hi u, .int 1 v] }).objs.size], _, _, H, rfl,
    I1.kept (t' := tk) fun b o e => Heap.get?_push_of_some _ e, turn_range _ lo (hi - lo).toNat, ?_, fun b hb => ?_, q⟩
  · have e1 : lo + ((0 : Nat) : Int) * 1 = lo := by simp
    have e2 : (((hi - lo).toNat : Nat) : Int) - ((0 : Nat) : Int) = Builtin.Range.rangeSize lo hi 1 := by rw [rangeSize_one]; split <;> omega
    show IsRangeIter _ _ (lo + ((0 : Nat) : Int) * 1) ((((hi - lo).toNat : Nat) : Int) - ((0 : Nat) : Int)) 1
    rw [e1, e2]
    exact Heap.get?_push_size _ rfl
  · have e : b = (s.heap.push { cls := .type "range", data := .fields #[.int lo t, .int hi u, .int 1 v] }).objs.size := by simpa using hb
    subst e
    exact I1.fpOk (Nat.le_refl _) (I1.hok.fresh (Nat.le_refl _))
noncomputable def iRng1 (ta : TA) : TI := fun σ H R => ta σ H fun vs H1 => ∃ j : Int, vs = [.int j] ∧ -(2 ^ 62) ≤ j ∧ j < 2 ^ 62 ∧ R (Itr 0 j.toNat) H1
theorem pi_range1 {a : Expr} {ta : TA} {p pos : Pos} (hg : Gl X "range") (hm : X.mg "range" = none) (ha : PA X [a] ta) (hs : starEach [a] X.env = [(false, eval a X.env)] := by rfl) : PI X tg (.Call (.Name "range" p) [a] [] pos) (iRng1 ta) := by
  intro pins s σ H R I h
  refine Call_ (ld_blt I hg hm boot_range (PyProof.Rows.callWith_type1 (thn (ha pos pins s σ H _ I h) fun us s1 ⟨vs, H1, I1, r1, q1⟩ => ?_) hs rfl))
  obtain ⟨j, e, q1, q2, q⟩ := q1
  subst e
  cases r1 with
  | cons r rr =>
    cases rr
    obtain ⟨t, rfl⟩ := r
    exact call_range_1 (range_it I1 (by omega) (by omega) q1 q2 (by simpa using q))
noncomputable def tFor (wi : TI) (g : TG) (tb : TS) : TS := fun D σ H => wi σ H fun J H1 => ∃ W : Nat → Nat → St → Hp → Prop, (∃ m, W 0 m σ H1) ∧ ∀ i m σ H, W i m σ H →
  (J.stop i H ∧ D.nx σ H) ∨ (J.go i H ∧ ∃ N : St → Hp → Prop, (∀ σ' H', N σ' H' → ∃ m', m' < m ∧ W (i + 1) m' σ' H') ∧ ∀ x H', J.yld i H x H' → g x σ H' fun σ2 H2 => tb { D with nx := N, ct := N, bk := D.nx } σ2 H2)
noncomputable def pinsAt (fp : List Addr) (h : Heap) : List (Addr × Obj) := fp.filterMap fun b => (h.get? b).map fun o => (b, o)
theorem mem_pinsAt {fp : List Addr} {h : Heap} {b : Addr} {o : Obj} (hb : b ∈ fp) (e : h.get? b = some o) : (b, o) ∈ pinsAt fp h := List.mem_filterMap.mpr ⟨b, hb, by rw [e]; rfl⟩
theorem of_pinsAt {fp : List Addr} {h : Heap} {p : Addr × Obj} (hp : p ∈ pinsAt fp h) : p.1 ∈ fp ∧ h.get? p.1 = some p.2 := by
  obtain ⟨b, hb, e⟩ := List.mem_filterMap.mp hp
  cases q : h.get? b with
  | none => rw [q] at e; cases e
  | some o =>
    rw [q] at e
    have e' : (b, o) = p := Option.some.inj e
    subst e'
    exact ⟨hb, q⟩
theorem Inv.pinned {pins : List (Addr × Obj)} {σ : St} {H : Hp} {s : Shared} {fp : List Addr} (I : Inv X pins σ H s) (hf : ∀ b ∈ fp, FpOk X pins H b) (ho : ∀ b ∈ fp, ∃ o, s.heap.get? b = some o ∧ ∀ v, o.data ≠ .cell v) : Inv X (pins ++ pinsAt fp s.heap) σ H s :=
  I.pins_of fun p hp => (List.mem_append.mp hp).elim (fun z => I.pin p (List.mem_append_right _ z)) fun z => by
    obtain ⟨hb, e⟩ := of_pinsAt z
    obtain ⟨f0, f1, f2, _⟩ := hf p.1 hb
    obtain ⟨o, e', d⟩ := ho p.1 hb
    rw [e] at e'; cases e'
    exact ⟨e, f0, f1, f2, d⟩
theorem Inv.unpinned {pins pl : List (Addr × Obj)} {σ : St} {H : Hp} {s : Shared} (I : Inv X (pins ++ pl) σ H s) : Inv X pins σ H s := I.pins_of fun p hp => I.pin p (List.mem_append_right _ (List.mem_append_left _ hp))
theorem ps_for {iter : Expr} {body : List Stmt} {wi : TI} {g : TG} {tb : TS} {pos : Pos} (hp : PassesOwn (model X.prog X.w) X.A X.env X.xe) (hc : X.calm = true) (hi : PI X tg iter wi) (hg : PG X tg g) (hb : PSs X body tb)
    (hs : ∀ x, foldedSetIterable iter X.env x = pure x := by intro _; rfl) : PS X (.For tg iter body [] pos) (tFor wi g tb) := by
  intro pins s σ H D I h
  refine wpAny_For (thn (hi pins s σ H _ I h) fun v s1 h1 => thn h1 fun itv s2 h2 => ?_) hs
  obtain ⟨it, fp, tn, J, H2, e, I2, T, st2, f2, W, ⟨m0, w0⟩, turn⟩ := h2
  subst e
  -- what stays true of the iterator's objects through the loop
  have stat : ∀ {H' : Hp}, (∀ b ∈ fp, H' b = none) → ∀ b ∈ fp, FpOk X pins H' b := fun hn b hb => ⟨hn b hb, (f2 b hb).2⟩
  refine codeAny_forLoop_any (fun n s' => ∃ i σ' H', Inv X pins σ' H' s' ∧ tn i s'.heap ∧ (∀ b ∈ fp, H' b = none) ∧ W i n σ' H') ?_ m0 ⟨0, σ, H2, I2, st2, fun b hb => (f2 b hb).1, w0⟩
  rintro n s3 ⟨i, σ3, H3, I3, st3, fr3, w3⟩
  rcases turn i n σ3 H3 w3 with ⟨stop, qn⟩ | ⟨go, N, hN, step⟩
  · refine wpAny_passesOwn hp (thn (T.done X rfl rfl rfl hc i pins s3 σ3 H3 X.xe I3 (stat fr3) st3 stop) fun r s4 ⟨hr, I4⟩ => ?_)
    subst hr
    exact wpAny_execs_nil ⟨σ3, H3, I4, qn⟩
  · refine wpAny_passesOwn hp (thn (T.item X rfl rfl rfl hc i pins s3 σ3 H3 X.xe I3 (stat fr3) st3 go) fun r s4 ⟨u, hr, h4⟩ => ?_)
    subst hr
    refine wpAny_passesOwn hp (thn h4 fun _ s5 ⟨x, H5, I5, r5, y5, st5, fr5⟩ => ?_)
    have I5' := I5.pinned (stat fr5) (T.obj _ _ st5)
    refine wpAny_passesOwn hp (thn (hg _ s5 σ3 H5 x u _ I5' r5 (step x H5 y5)) fun _ s6 ⟨σ6, H6, I6, q6⟩ => ?_)
    refine wpAny_passesOwn hp (thn (hb _ s6 σ6 H6 _ I6 q6) fun f s7 q7 => ?_)
    have again : ∀ {σ7 : St} {H7 : Hp}, Inv X (pins ++ pinsAt fp s5.heap) σ7 H7 s7 → N σ7 H7 → ∃ m, m < n ∧ ∃ i σ' H', Inv X pins σ' H' s7 ∧ tn i s7.heap ∧ (∀ b ∈ fp, H' b = none) ∧ W i m σ' H' := fun {σ7 H7} I7 n7 => by
      obtain ⟨m', hm, w7⟩ := hN σ7 H7 n7
      refine ⟨m', hm, i + 1, σ7, H7, I7.unpinned, T.keep _ _ _ st5 fun b hb o e => (I7.pin (b, o) (List.mem_append_right _ (List.mem_append_right _ (mem_pinsAt hb e)))).1, fun b hb => ?_, w7⟩
      obtain ⟨o, e, d⟩ := T.obj _ _ st5 b hb
      exact (I7.pin (b, o) (List.mem_append_right _ (List.mem_append_right _ (mem_pinsAt hb e)))).2.1
    cases f with
    | next => obtain ⟨σ7, H7, I7, n7⟩ := q7; exact again I7 n7
    | cont => obtain ⟨σ7, H7, I7, n7⟩ := q7; exact again I7 n7
    | brk => obtain ⟨σ7, H7, I7, q7⟩ := q7; exact ⟨σ7, H7, I7.unpinned, q7⟩
    | ret v => obtain ⟨x7, σ7, H7, I7, r7, q7⟩ := q7; exact ⟨x7, σ7, H7, I7.unpinned, r7, q7⟩
end

theorem for_list {K : PySem.W.Frag} {a : Addr} {xs : List V} {g : TG} {tb : TS} {D : Ends} {σ : St} {H : Hp} (Pv : Nat → St → Hp → Prop) (h0 : Pv 0 σ H) (hl : ∀ i σ H, i ≤ xs.length → Pv i σ H → SqL K H a xs)
    (hs : ∀ i x σ H, xs[i]? = some x → Pv i σ H → g x σ H fun σ2 H2 => tb { D with nx := Pv (i + 1), ct := Pv (i + 1), bk := D.nx } σ2 H2) (hd : ∀ σ H, Pv xs.length σ H → D.nx σ H) :
    ∃ W : Nat → Nat → St → Hp → Prop, (∃ m, W 0 m σ H) ∧ ∀ i m σ H, W i m σ H →
      ((Itl K a).stop i H ∧ D.nx σ H) ∨ ((Itl K a).go i H ∧ ∃ N : St → Hp → Prop, (∀ σ' H', N σ' H' → ∃ m', m' < m ∧ W (i + 1) m' σ' H') ∧ ∀ x H', (Itl K a).yld i H x H' → g x σ H' fun σ2 H2 => tb { D with nx := N, ct := N, bk := D.nx } σ2 H2) := by
  refine ⟨fun i m σ H => m = xs.length - i ∧ i ≤ xs.length ∧ Pv i σ H, ⟨xs.length, by simp, Nat.zero_le _, h0⟩, ?_⟩
  rintro i m σ H ⟨rfl, hi, p⟩
  have q := hl i σ H hi p
  by_cases hlt : i < xs.length
  · refine .inr ⟨⟨xs, xs[i], q, by simp [hlt]⟩, Pv (i + 1), fun σ' H' p' => ⟨xs.length - (i + 1), by omega, rfl, hlt, p'⟩, fun x H' y => ?_⟩
    obtain ⟨e, y⟩ := y
    subst e
    exact hs i x σ _ (y xs q) p
  · have e : i = xs.length := by omega
    subst e
    exact .inl ⟨⟨xs, q, Nat.le_refl _⟩, hd σ H p⟩
theorem for_range {lo : Int} {n : Nat} {g : TG} {tb : TS} {D : Ends} {σ : St} {H : Hp} (Pv : Nat → St → Hp → Prop) (h0 : Pv 0 σ H)
    (hs : ∀ i σ H, i < n → Pv i σ H → g (.int (lo + i)) σ H fun σ2 H2 => tb { D with nx := Pv (i + 1), ct := Pv (i + 1), bk := D.nx } σ2 H2) (hd : ∀ σ H, Pv n σ H → D.nx σ H) :
    ∃ W : Nat → Nat → St → Hp → Prop, (∃ m, W 0 m σ H) ∧ ∀ i m σ H, W i m σ H →
      ((Itr lo n).stop i H ∧ D.nx σ H) ∨ ((Itr lo n).go i H ∧ ∃ N : St → Hp → Prop, (∀ σ' H', N σ' H' → ∃ m', m' < m ∧ W (i + 1) m' σ' H') ∧ ∀ x H', (Itr lo n).yld i H x H' → g x σ H' fun σ2 H2 => tb { D with nx := N, ct := N, bk := D.nx } σ2 H2) := by
  refine ⟨fun i m σ H => m = n - i ∧ i ≤ n ∧ Pv i σ H, ⟨n, by simp, Nat.zero_le _, h0⟩, ?_⟩
  rintro i m σ H ⟨rfl, hi, p⟩
  by_cases hlt : i < n
  · refine .inr ⟨hlt, Pv (i + 1), fun σ' H' p' => ⟨n - (i + 1), by omega, rfl, hlt, p'⟩, fun x H' y => ?_⟩
    obtain ⟨e, y⟩ := y
    subst e y
    exact hs i σ _ hlt p
  · have e : i = n := by omega
    subst e
    exact .inl ⟨Nat.le_refl _, hd σ H p⟩
end L2

namespace L2
open PySem PySem.Spec PyProof.Rows

noncomputable abbrev R2 := V → V → Hp → VK → Prop
noncomputable def OpR (X : Cx) (f : Value → Value → Sem Value) (r : R2) : Prop :=
  ∀ (pins : List (Addr × Obj)) (s : Shared) (σ : St) (H : Hp) (x y : V) (v u : Value) (Q : VK), Inv X pins σ H s → RelV x v → RelV y u → r x y H Q →
    wpAny (model X.prog X.w) X.A (f v u) (EP X pins σ Q) X.xe s
noncomputable def UnR (X : Cx) (f : Value → Sem Value) (r : V → Hp → VK → Prop) : Prop :=
  ∀ (pins : List (Addr × Obj)) (s : Shared) (σ : St) (H : Hp) (x : V) (v : Value) (Q : VK), Inv X pins σ H s → RelV x v → r x H Q →
    wpAny (model X.prog X.w) X.A (f v) (EP X pins σ Q) X.xe s
noncomputable def CallR (X : Cx) (f : Value) (r : List V → Hp → VK → Prop) : Prop :=
  ∀ (pins : List (Addr × Obj)) (s : Shared) (σ : St) (H : Hp) (xs : List V) (us : List Value) (Q : VK), Inv X pins σ H s → Vals xs us → r xs H Q →
    wpAny (model X.prog X.w) X.A (call f us) (EP X pins σ Q) X.xe s
noncomputable def tOp (r : R2) (ta tb : TE) : TE := fun σ H Q => ta σ H fun x H1 => tb σ H1 fun y H2 => r x y H2 Q
noncomputable def tUn (r : V → Hp → VK → Prop) (ta : TE) : TE := fun σ H Q => ta σ H fun x H1 => r x H1 Q
noncomputable def rI (C : Int → Int → Prop) (g : Int → Int → V) : R2 := fun x y H Q => ∃ i j, x = .int i ∧ y = .int j ∧ C i j ∧ Q (g i j) H
noncomputable def rI0 (g : Int → Int → V) : R2 := fun x y H Q => ∃ i j, x = .int i ∧ y = .int j ∧ Q (g i j) H
noncomputable def rU (g : Int → V) : V → Hp → VK → Prop := fun x H Q => ∃ i, x = .int i ∧ Q (g i) H

section
variable {X : Cx} {a b c : Expr} {ta tb tc : TE} {pos : Pos}

theorem binT (ha : PE X a ta) (hb : PE X b tb) {pins : List (Addr × Obj)} {s : Shared} {σ : St} {H : Hp} {R : V → V → Hp → Prop} (I : Inv X pins σ H s)
    (h : ta σ H fun x H1 => tb σ H1 fun y H2 => R x y H2) {Q : Value → Shared → Prop} {f : Value → Value → Sem Value}
    (hf : ∀ v u s2 x y H2, Inv X pins σ H2 s2 → RelV x v → RelV y u → R x y H2 → wpAny (model X.prog X.w) X.A (f v u) Q X.xe s2) :
    wpAny (model X.prog X.w) X.A (eval a X.env) (fun v s₁ => wpAny (model X.prog X.w) X.A (eval b X.env) (fun u s₂ => wpAny (model X.prog X.w) X.A (f v u) Q X.xe s₂) X.xe s₁) X.xe s := by
  refine thn (ha pins s σ H _ I h) fun v s1 ⟨x, H1, I1, r1, q1⟩ => ?_
  refine thn (hb pins s1 σ H1 _ I1 q1) fun u s2 ⟨y, H2, I2, r2, q2⟩ => ?_
  exact hf v u s2 x y H2 I2 r1 r2 q2

theorem pe_op {op : Operator} {r : R2} (ho : OpR X (binaryOp op) r) (ha : PE X a ta) (hb : PE X b tb) : PE X (.BinOp a op b pos) (tOp r ta tb) := by
  intro pins s σ H Q I h
  exact wpAny_BinOp (binT ha hb I h fun v u s2 x y H2 I2 rx ry q => ho pins s2 σ H2 x y v u Q I2 rx ry q)
theorem pe_un {op : UnaryOp} {r : V → Hp → VK → Prop} (ho : UnR X (unaryOp op) r) (ha : PE X a ta) : PE X (.UnaryOp op a pos) (tUn r ta) := by
  intro pins s σ H Q I h
  exact UnaryOp_ (thn (ha pins s σ H _ I h) fun v s1 ⟨x, H1, I1, r1, q1⟩ => ho pins s1 σ H1 x v Q I1 r1 q1)
theorem opI {f : Value → Value → Sem Value} {C : Int → Int → Prop} {g : Int → Int → Int}
    (rule : ∀ (i j : Int) (t u : Tok) (s : Shared) (Q : Value → Shared → Prop) (E : Value → Shared → Prop), C i j → Q (.int (g i j) s.toks) { s with toks := s.toks + 1 } → wpAny (model X.prog X.w) X.A (f (.int i t) (.int j u)) Q E s) :
    OpR X f (rI C fun i j => .int (g i j)) := by
  intro pins s σ H x y v u Q I rx ry h
  obtain ⟨i, j, rfl, rfl, hc, q⟩ := h
  obtain ⟨t, rfl⟩ := rx
  obtain ⟨t', rfl⟩ := ry
  exact rule i j t t' s _ _ hc ⟨.int (g i j), H, I.tok _, ⟨_, rfl⟩, q⟩
theorem opI0 {f : Value → Value → Sem Value} {g : Int → Int → Int}
    (rule : ∀ (i j : Int) (t u : Tok) (s : Shared) (Q : Value → Shared → Prop) (E : Value → Shared → Prop), Q (.int (g i j) s.toks) { s with toks := s.toks + 1 } → wpAny (model X.prog X.w) X.A (f (.int i t) (.int j u)) Q E s) :
    OpR X f (rI0 fun i j => .int (g i j)) := by
  intro pins s σ H x y v u Q I rx ry h
  obtain ⟨i, j, rfl, rfl, q⟩ := h
  obtain ⟨t, rfl⟩ := rx
  obtain ⟨t', rfl⟩ := ry
  exact rule i j t t' s _ _ ⟨.int (g i j), H, I.tok _, ⟨_, rfl⟩, q⟩
theorem opB0 {f : Value → Value → Sem Value} {g : Int → Int → Bool}
    (rule : ∀ (i j : Int) (t u : Tok) (s : Shared) (Q : Value → Shared → Prop) (E : Value → Shared → Prop), Q (.bool (g i j)) s → wpAny (model X.prog X.w) X.A (f (.int i t) (.int j u)) Q E s) :
    OpR X f (rI0 fun i j => .bl (g i j)) := by
  intro pins s σ H x y v u Q I rx ry h
  obtain ⟨i, j, rfl, rfl, q⟩ := h
  obtain ⟨t, rfl⟩ := rx
  obtain ⟨t', rfl⟩ := ry
  exact rule i j t t' s _ _ ⟨.bl (g i j), H, I, rfl, q⟩

noncomputable def CDiv (i j : Int) : Prop := 0 < j ∧ j < 1073741824
noncomputable def CPow (i j : Int) : Prop := 0 ≤ j ∧ j ≤ 1000000 ∧ i.natAbs < 2 ^ 64
noncomputable def CMul (i j : Int) : Prop := (-(2 ^ 64) < i ∧ i < 2 ^ 64) ∨ (-(2 ^ 64) < j ∧ j < 2 ^ 64)
theorem CMul.ok {i j : Int} (h : CMul i j) : IntMulOk i j := by
  rcases h with ⟨h1, h2⟩ | ⟨h1, h2⟩
  · exact .of_left (intBits_le_64 h1 h2)
  · exact .of_right (intBits_le_64 h1 h2)
theorem two_pow_nn (k : Nat) : (0 : Int) ≤ 2 ^ k := by
  rw [two_pow_cast]
  exact Int.natCast_nonneg _

theorem op_add : OpR X (binaryOp .Add) (rI0 fun i j => .int (i + j)) := opI0 fun _ _ _ _ _ _ _ q => add_int q
theorem op_sub : OpR X (binaryOp .Sub) (rI0 fun i j => .int (i - j)) := opI0 fun _ _ _ _ _ _ _ q => sub_int q
theorem op_mul : OpR X (binaryOp .Mult) (rI CMul fun i j => .int (i * j)) := opI fun _ _ _ _ _ _ _ hc q => mul_int q hc.ok
theorem op_fdiv : OpR X (binaryOp .FloorDiv) (rI CDiv fun i j => .int (i / j)) := opI fun i j _ _ _ _ _ hc q => by
  have h1 : (0 : Int) < j := hc.1
  have h2 : j < 1073741824 := hc.2
  exact floordiv_int (by omega) (by rw [Int.fdiv_eq_ediv_of_nonneg i (by omega)]; exact q) (.inl (PyProof.noPylong_small (by omega)))
theorem op_mod : OpR X (binaryOp .Mod) (rI (fun _ j => 0 < j) fun i j => .int (i % j)) := opI fun i j _ _ _ _ _ hc q => by
  have h1 : (0 : Int) < j := hc
  exact mod_int' (by omega) (by rw [Int.fmod_eq_emod_of_nonneg i (by omega)]; exact q)
theorem op_pow : OpR X (binaryOp .Pow) (rI CPow fun i j => .int (i ^ j.toNat)) := opI fun _ _ _ _ _ _ _ hc q => pow_int_small hc.1 hc.2.1 hc.2.2 q
theorem op_shl : OpR X (binaryOp .LShift) (rI CPow fun i j => .int (i * 2 ^ j.toNat)) := opI fun _ _ _ _ _ _ _ hc q => lshift_int_small hc.1 hc.2.1 hc.2.2 q
theorem op_shr : OpR X (binaryOp .RShift) (rI (fun _ j => 0 ≤ j) fun i j => .int (i / 2 ^ j.toNat)) := opI fun i j _ _ _ _ _ hc q =>
  rshift_int hc (by rw [Int.fdiv_eq_ediv_of_nonneg i (two_pow_nn _)]; exact q)
theorem op_and : OpR X (binaryOp .BitAnd) (rI0 fun i j => .int (Builtin.bitAnd i j)) := opI0 fun _ _ _ _ _ _ _ q => and_int q
theorem op_or : OpR X (binaryOp .BitOr) (rI0 fun i j => .int (Builtin.bitOr i j)) := opI0 fun _ _ _ _ _ _ _ q => or_int q
theorem unI {f : Value → Sem Value} {g : Int → Int}
    (rule : ∀ (i : Int) (t : Tok) (s : Shared) (Q : Value → Shared → Prop) (E : Value → Shared → Prop), Q (.int (g i) s.toks) { s with toks := s.toks + 1 } → wpAny (model X.prog X.w) X.A (f (.int i t)) Q E s) :
    UnR X f (rU fun i => .int (g i)) := by
  intro pins s σ H x v Q I rx h
  obtain ⟨i, rfl, q⟩ := h
  obtain ⟨t, rfl⟩ := rx
  exact rule i t s _ _ ⟨.int (g i), H, I.tok _, ⟨_, rfl⟩, q⟩
theorem un_neg : UnR X (unaryOp .USub) (rU fun i => .int (-i)) := unI fun _ _ _ _ _ q => neg_int q
end

noncomputable def scal : V → V → Bool
  | .non, .non => true | .non, .int _ => true | .int _, .non => true | .non, .bl _ => true | .bl _, .non => true | .non, .str _ => true | .str _, .non => true
  | .int _, .int _ => true | .bl _, .bl _ => true | .str _, .str _ => true | .byt _, .byt _ => true
  | .int _, .str _ => true | .str _, .int _ => true | .bl _, .str _ => true | .str _, .bl _ => true
  | _, _ => false
noncomputable def rEq : R2 := fun x y H Q => scal x y = true ∧ Q (.bl (decide (x = y))) H
noncomputable def rNe : R2 := fun x y H Q => scal x y = true ∧ Q (.bl (!decide (x = y))) H

theorem dec_int {i j : Int} : decide (V.int i = V.int j) = (i == j) := by
  rw [Bool.eq_iff_iff]
  simp
theorem dec_bl {i j : Bool} : decide (V.bl i = V.bl j) = (i == j) := by
  rw [Bool.eq_iff_iff]
  simp
theorem dec_str {i j : Str} : decide (V.str i = V.str j) = (i == j) := by
  rw [Bool.eq_iff_iff]
  simp
theorem dec_byt {i j : Array UInt8} : decide (V.byt i = V.byt j) = (i.toList == j.toList) := by
  rw [Bool.eq_iff_iff]
  cases i
  cases j
  simp

section
variable {X : Cx} {a b c : Expr} {ta tb tc : TE} {pos : Pos}
theorem fin_bl {pins : List (Addr × Obj)} {σ : St} {H : Hp} {s : Shared} {Q : VK} {k k' : Bool} (I : Inv X pins σ H s) (q : Q (.bl k) H) (e : k = k') : EP X pins σ Q (.bool k') s := by
  subst e
  exact ⟨.bl k, H, I, rfl, q⟩
theorem op_eq : OpR X (compareOp .Eq) rEq := by
  intro pins s σ H x y v u Q I rx ry h
  obtain ⟨hs, q⟩ := h
  cases x with
  | non =>
    cases rx
    cases y with
    | non => cases ry; exact PySem.EqNone.eq_none_none (fin_bl I q (by simp))
    | bl j => cases ry; exact PySem.EqNone.eq_none_bool (fin_bl I q (by simp))
    | int j => obtain ⟨t', rfl⟩ := ry; exact PySem.EqNone.eq_none_int (fin_bl I q (by simp))
    | str j => obtain ⟨t', rfl⟩ := ry; exact PySem.EqNone.eq_none_str (fin_bl I q (by simp))
    | _ => exact absurd (show false = true from hs) Bool.false_ne_true
  | bl i =>
    cases rx
    cases y with
    | non => cases ry; exact PySem.EqNone.eq_bool_none (fin_bl I q (by simp))
    | bl j => cases ry; exact eq_bool (fin_bl I q dec_bl)
    | str j => obtain ⟨t', rfl⟩ := ry; exact PySem.EqMixed.eq_bool_str (fin_bl I q (by simp))
    | _ => exact absurd (show false = true from hs) Bool.false_ne_true
  | int i =>
    obtain ⟨t, rfl⟩ := rx
    cases y with
    | non => cases ry; exact PySem.EqNone.eq_int_none (fin_bl I q (by simp))
    | int j => obtain ⟨t', rfl⟩ := ry; exact eq_int (fin_bl I q dec_int)
    | str j => obtain ⟨t', rfl⟩ := ry; exact PySem.EqMixed.eq_int_str (fin_bl I q (by simp))
    | _ => exact absurd (show false = true from hs) Bool.false_ne_true
  | str i =>
    obtain ⟨t, rfl⟩ := rx
    cases y with
    | non => cases ry; exact PySem.EqNone.eq_str_none (fin_bl I q (by simp))
    | bl j => cases ry; exact PySem.EqMixed.eq_str_bool (fin_bl I q (by simp))
    | int j => obtain ⟨t', rfl⟩ := ry; exact PySem.EqMixed.eq_str_int (fin_bl I q (by simp))
    | str j => obtain ⟨t', rfl⟩ := ry; exact eq_str (fin_bl I q dec_str)
    | _ => exact absurd (show false = true from hs) Bool.false_ne_true
  | byt i =>
    obtain ⟨t, rfl⟩ := rx
    cases y with
    | byt j => obtain ⟨t', rfl⟩ := ry; exact PySem.W.eq_bytes (fin_bl I q dec_byt)
    | _ => exact absurd (show false = true from hs) Bool.false_ne_true
  | _ => cases y <;> exact absurd (show false = true from hs) Bool.false_ne_true
theorem op_ne : OpR X (compareOp .NotEq) rNe := by
  intro pins s σ H x y v u Q I rx ry h
  obtain ⟨hs, q⟩ := h
  cases x with
  | non =>
    cases rx
    cases y with
    | non => cases ry; exact PySem.EqNone.ne_none_none (fin_bl I q (by simp))
    | bl j => cases ry; exact PySem.EqNone.ne_none_bool (fin_bl I q (by simp))
    | int j => obtain ⟨t', rfl⟩ := ry; exact PySem.EqNone.ne_none_int (fin_bl I q (by simp))
    | str j => obtain ⟨t', rfl⟩ := ry; exact PySem.EqNone.ne_none_str (fin_bl I q (by simp))
    | _ => exact absurd (show false = true from hs) Bool.false_ne_true
  | bl i =>
    cases rx
    cases y with
    | non => cases ry; exact PySem.EqNone.ne_bool_none (fin_bl I q (by simp))
    | bl j => cases ry; exact ne_bool (fin_bl I q (congrArg not dec_bl))
    | str j => obtain ⟨t', rfl⟩ := ry; exact PySem.EqMixed.ne_bool_str (fin_bl I q (by simp))
    | _ => exact absurd (show false = true from hs) Bool.false_ne_true
  | int i =>
    obtain ⟨t, rfl⟩ := rx
    cases y with
    | non => cases ry; exact PySem.EqNone.ne_int_none (fin_bl I q (by simp))
    | int j => obtain ⟨t', rfl⟩ := ry; exact ne_int (fin_bl I q (congrArg not dec_int))
    | str j => obtain ⟨t', rfl⟩ := ry; exact PySem.EqMixed.ne_int_str (fin_bl I q (by simp))
    | _ => exact absurd (show false = true from hs) Bool.false_ne_true
  | str i =>
    obtain ⟨t, rfl⟩ := rx
    cases y with
    | non => cases ry; exact PySem.EqNone.ne_str_none (fin_bl I q (by simp))
    | bl j => cases ry; exact PySem.EqMixed.ne_str_bool (fin_bl I q (by simp))
    | int j => obtain ⟨t', rfl⟩ := ry; exact PySem.EqMixed.ne_str_int (fin_bl I q (by simp))
    | str j => obtain ⟨t', rfl⟩ := ry; exact ne_str (fin_bl I q (congrArg not dec_str))
    | _ => exact absurd (show false = true from hs) Bool.false_ne_true
  | byt i =>
    obtain ⟨t, rfl⟩ := rx
    cases y with
    | byt j => obtain ⟨t', rfl⟩ := ry; exact PySem.W.ne_bytes (fin_bl I q (congrArg not dec_byt))
    | _ => exact absurd (show false = true from hs) Bool.false_ne_true
  | _ => cases y <;> exact absurd (show false = true from hs) Bool.false_ne_true

theorem op_lt : OpR X (compareOp .Lt) (rI0 fun i j => .bl (decide (i < j))) := opB0 fun _ _ _ _ _ _ _ q => lt_int q
theorem op_le : OpR X (compareOp .LtE) (rI0 fun i j => .bl (decide (i ≤ j))) := opB0 fun _ _ _ _ _ _ _ q => le_int q
theorem op_gt : OpR X (compareOp .Gt) (rI0 fun i j => .bl (decide (j < i))) := opB0 fun _ _ _ _ _ _ _ q => gt_int q
theorem op_in_str : OpR X (compareOp .In) (fun x y H Q => ∃ i j, x = .str i ∧ y = .str j ∧ Q (.bl (!(Builtin.Str.occurrences j i 0 j.length 1).isEmpty)) H) := by
  intro pins s σ H x y v u Q I rx ry h
  obtain ⟨i, j, rfl, rfl, q⟩ := h
  obtain ⟨t, rfl⟩ := rx
  obtain ⟨t', rfl⟩ := ry
  exact in_str (fin_bl I q rfl)

theorem op_isN : OpR X (compareOp .Is) (fun x y H Q => y = .non ∧ Q (.bl (decide (x = .non))) H) := by
  intro pins s σ H x y v u Q I rx ry h
  obtain ⟨rfl, q⟩ := h
  cases ry
  refine is_none_gen (fin_bl I q ?_)
  cases x <;> first
    | (cases rx; rfl)
    | (obtain ⟨t, rfl⟩ := rx; rfl)
theorem op_notN : OpR X (compareOp .IsNot) (fun x y H Q => y = .non ∧ Q (.bl (!decide (x = .non))) H) := by
  intro pins s σ H x y v u Q I rx ry h
  obtain ⟨rfl, q⟩ := h
  cases ry
  refine isnot_none_gen (fin_bl I q ?_)
  cases x <;> first
    | (cases rx; rfl)
    | (obtain ⟨t, rfl⟩ := rx; rfl)

theorem op_notin_str : OpR X (compareOp .NotIn) (fun x y H Q => ∃ i j, x = .str i ∧ y = .str j ∧ Q (.bl (!(!(Builtin.Str.occurrences j i 0 j.length 1).isEmpty))) H) := by
  intro pins s σ H x y v u Q I rx ry h
  obtain ⟨i, j, rfl, rfl, q⟩ := h
  obtain ⟨t, rfl⟩ := rx
  obtain ⟨t', rfl⟩ := ry
  exact notIn_str (fin_bl I q rfl)
theorem OpR.or {f : Value → Value → Sem Value} {r r' : R2} (h : OpR X f r) (h' : OpR X f r') : OpR X f (fun x y H Q => r x y H Q ∨ r' x y H Q) := by
  intro pins s σ H x y v u Q I rx ry q
  rcases q with q | q
  · exact h pins s σ H x y v u Q I rx ry q
  · exact h' pins s σ H x y v u Q I rx ry q

theorem nomark (b : Expr) {op : CmpOp} (h : op ≠ .In := by decide) (h2 : op ≠ .NotIn := by decide) : behindInMarks op b = false := by
  have e1 : (op == CmpOp.In) = false := by cases op <;> first | rfl | exact absurd rfl h
  have e2 : (op == CmpOp.NotIn) = false := by cases op <;> first | rfl | exact absurd rfl h2
  cases b <;> simp [behindInMarks, e1, e2]
theorem pe_cmpR {op : CmpOp} {r : R2} (ho : OpR X (compareOp op) r) (ha : PE X a ta) (hb : PE X b tb) (hm : behindInMarks op b = false) : PE X (.Compare a [op] [b] pos) (tOp r ta tb) := by
  intro pins s σ H Q I h
  exact wpAny_Compare1 (binT ha hb I h fun v u s2 x y H2 I2 rx ry q => ho pins s2 σ H2 x y v u Q I2 rx ry q) hm
noncomputable def tTest (t : TE) : TT := fun σ H Q => t σ H fun x H' => ∃ k, x = .bl k ∧ Q k H'
theorem pt_cmpR {op : CmpOp} {r : R2} (ho : OpR X (compareOp op) r) (ha : PE X a ta) (hb : PE X b tb) (hm : behindInMarks op b = false) : PT X (.Compare a [op] [b] pos) (tTest (tOp r ta tb)) := by
  intro pins s σ H Q I h
  refine wpAny_isTrue_Compare1 (thn (ha pins s σ H _ I h) fun v s1 ⟨x, H1, I1, r1, q1⟩ => thn (hb pins s1 σ H1 _ I1 q1) fun u s2 ⟨y, H2, I2, r2, q2⟩ =>
    thn (ho pins s2 σ H2 x y v u _ I2 r1 r2 q2) fun c s3 ⟨z, H3, I3, r3, k, e, q3⟩ => ?_) hm
  subst e
  cases r3
  exact wpAny_truthy_bool ⟨H3, I3, q3⟩
noncomputable def tChain (r r' : R2) (ta tb tc : TE) : TE := fun σ H Q => ta σ H fun x H1 => tb σ H1 fun y H2 => r x y H2 fun z H3 => ∃ k, z = .bl k ∧
  (if k = true then tc σ H3 fun w' H4 => r' y w' H4 Q else Q (.bl false) H3)
theorem pe_chain {op op' : CmpOp} {r r' : R2} (ho : OpR X (compareOp op) r) (ho' : OpR X (compareOp op') r') (ha : PE X a ta) (hb : PE X b tb) (hc : PE X c tc)
    (hm : lastMarks [op, op'] [b, c] = false := by with_unfolding_all rfl) : PE X (.Compare a [op, op'] [b, c] pos) (tChain r r' ta tb tc) := by
  intro pins s σ H Q I h
  refine Compare_chain (thn (ha pins s σ H _ I h) fun v s1 ⟨x, H1, I1, r1, q1⟩ => chain_link (thn (hb pins s1 σ H1 _ I1 q1) fun u s2 ⟨y, H2, I2, r2, q2⟩ =>
    thn (ho pins s2 σ H2 x y v u _ I2 r1 r2 q2) fun d s3 ⟨z, H3, I3, r3, k, e, q3⟩ => ?_)) hm
  subst e
  cases r3
  refine wpAny_truthy_bool ?_
  cases k with
  | false => exact ite_ff ⟨.bl false, H3, I3, rfl, q3⟩
  | true => exact ite_tt (chain_last (thn (hc pins s3 σ H3 _ I3 q3) fun w' s4 ⟨z', H4, I4, r4, q4⟩ => ho' pins s4 σ H4 y z' u w' Q I4 r2 r4 q4))
theorem line63 : (sizeLine : Nat) < 2 ^ 63 := by rw [sizeLine_eq]; decide
theorem op_add_str : OpR X (binaryOp .Add) (fun x y H Q => ∃ i j, x = .str i ∧ y = .str j ∧ i.length + j.length ≤ sizeLine ∧ Q (.str (i ++ j)) H) := by
  intro pins s σ H x y v u Q I rx ry h
  obtain ⟨i, j, rfl, rfl, hz, q⟩ := h
  obtain ⟨t, rfl⟩ := rx
  obtain ⟨t', rfl⟩ := ry
  exact add_str (fun t' tk => ⟨.str (i ++ j), H, I.tok _, ⟨_, rfl⟩, q⟩) hz
theorem vals1 {x : V} {us : List Value} (r : Vals [x] us) : ∃ u, us = [u] ∧ RelV x u := by
  cases r with
  | cons r1 r2 => cases r2; exact ⟨_, rfl, r1⟩
theorem vals2 {x y : V} {us : List Value} (r : Vals [x, y] us) : ∃ u w', us = [u, w'] ∧ RelV x u ∧ RelV y w' := by
  cases r with
  | cons r1 r2 =>
    cases r2 with
    | cons r3 r4 => cases r4; exact ⟨_, _, rfl, r1, r3⟩
theorem call_max2 (hc : X.A.handled = none) : CallR X (.builtin "max") (fun xs H Q => ∃ i j, xs = [.int i, .int j] ∧ Q (.int (if j > i then j else i)) H) := by
  intro pins s σ H xs us Q I r h
  obtain ⟨i, j, rfl, q⟩ := h
  obtain ⟨u, w', rfl, ⟨t, rfl⟩, ⟨t', rfl⟩⟩ := vals2 r
  refine max_two_ints hc fun h' tk k => ⟨_, H, I.kept k, ?_, q⟩
  by_cases hj : j > i
  · rw [if_pos hj, if_pos hj]; exact ⟨_, rfl⟩
  · rw [if_neg hj, if_neg hj]; exact ⟨_, rfl⟩
theorem call_min2 (hc : X.A.handled = none) : CallR X (.builtin "min") (fun xs H Q => ∃ i j, xs = [.int i, .int j] ∧ Q (.int (if j < i then j else i)) H) := by
  intro pins s σ H xs us Q I r h
  obtain ⟨i, j, rfl, q⟩ := h
  obtain ⟨u, w', rfl, ⟨t, rfl⟩, ⟨t', rfl⟩⟩ := vals2 r
  refine min_two_ints hc fun h' tk k => ⟨_, H, I.kept k, ?_, q⟩
  by_cases hj : j < i
  · rw [if_pos hj, if_pos hj]; exact ⟨_, rfl⟩
  · rw [if_neg hj, if_neg hj]; exact ⟨_, rfl⟩
theorem call_int1 : CallR X (.type "int") (fun xs H Q => (∃ i, xs = [.int i] ∧ Q (.int i) H) ∨ ∃ k, xs = [.bl k] ∧ Q (.int (if k then 1 else 0)) H) := by
  intro pins s σ H xs us Q I r h
  rcases h with ⟨i, rfl, q⟩ | ⟨k, rfl, q⟩
  · obtain ⟨u, rfl, t, rfl⟩ := vals1 r
    exact call_int_int ⟨.int i, H, I, ⟨_, rfl⟩, q⟩
  · obtain ⟨u, rfl, r1⟩ := vals1 r
    cases r1
    exact call_int_bool ⟨.int (if k then 1 else 0), H, I.tok _, ⟨_, rfl⟩, q⟩
theorem call_str_int : CallR X (.type "str") (fun xs H Q => ∃ i, xs = [.int i] ∧ i.natAbs.log2 < 1920 ∧ Q (.str (toString i)) H) := by
  intro pins s σ H xs us Q I r h
  obtain ⟨i, rfl, hz, q⟩ := h
  obtain ⟨u, rfl, t, rfl⟩ := vals1 r
  exact PySem.P.str_of_int hz ⟨.str _, H, I.tok _, ⟨_, rfl⟩, q⟩
end
end L2

namespace L2
open PySem PySem.Spec PyProof.Rows

structure ObjM (h : Heap) (x dx C : Addr) (mA : Str → Option Value) : Prop where
  obj : h.get? x = some (PySem.W.instObj C dx)
  ns : h.Ns1 dx mA
  ne : dx ≠ x

theorem lookIn_ns {h : Heap} {dx : Addr} {mA : Str → Option Value} (n : h.Ns1 dx mA) : ∃ od, h.get? dx = some od ∧ ∀ name, PySem.W.lookIn name od = some (mA name) := by
  obtain ⟨o, es, ep, ho, hd, hk, _, hm⟩ := n
  refine ⟨o, ho, fun name => ?_⟩
  have e := hm name
  unfold nsFind findBy at e
  rw [← Array.find?_toList] at e
  unfold PySem.W.lookIn
  rw [hd]
  dsimp only
  split
  · rename_i y q
    rw [q] at e
    exact congrArg some e
  · rename_i q
    rw [q] at e
    have a : es.toList.any (·.refKey) = false := by
      rw [List.any_eq_false]
      intro y hy
      obtain ⟨z, t, hkey⟩ := hk y (Array.mem_toList_iff.mp hy)
      simp [DictEntry.refKey, hkey]
    have a' : ¬ es.toList.any (·.refKey) = true := by rw [a]; exact Bool.false_ne_true
    rw [if_neg a']
    exact congrArg some e

theorem ObjM.look {h : Heap} {x dx C : Addr} {mA : Str → Option Value} (I : ObjM h x dx C mA) : ∃ od, PySem.W.InstAt h x (PySem.W.instObj C dx) C (some od) ∧ ∀ name, PySem.W.lookIn name od = some (mA name) :=
  let ⟨od, ho, hl⟩ := lookIn_ns I.ns
  ⟨od, ⟨I.obj, rfl, rfl, ho⟩, hl⟩

section
variable {prog : Program} {w : World} {A : Around} {E : Value → Shared → Prop} {s : Shared} {K : PySem.W.Frag} {x dx C f : Addr} {mA : Str → Option Value} {name : Str} {v : Value}

end

section
variable {P : Program} {w : World} {H H' : Hp} {h h' : Heap} {a C dx : Addr} {fs fs' : List (Str × V)}
theorem ins_get (hok : HOk P w H h) (e : H a = some (.ins C dx fs)) : ∃ mA, ObjM h a dx C mA ∧ (∀ f, RelO (fs.lookup f) (mA f)) ∧ PySem.Within mA (fs.map (·.1)) ∧ fs.length ≤ 1000 ∧ H dx = some (.own a) := by
  obtain ⟨d, z, ne, ob, mA, n, r, q⟩ := (show ObjOk P w H h a (.ins C dx fs) from hok a _ e)
  exact ⟨mA, ⟨ob, n, ne⟩, r, q, z, d⟩
end

structure Cls (K : PySem.W.Frag) (C : Addr) : Prop where
  pg : PySem.W.plainGet K C Str.empty = true
  hd : PySem.W.hasDictIn K C = true
  po : PySem.W.plainOver K C = true
  sa : PySem.W.findIn K (.ref C) "__setattr__" = some (some (.builtin "object.__setattr__"))
theorem Cls.get {K : PySem.W.Frag} {C : Addr} (c : Cls K C) (f : Str) : PySem.W.plainGet K C f = true := c.pg
section
variable {X : Cx} {pins : List (Addr × Obj)} {σ : St} {H : Hp} {s : Shared} {a C dx : Addr} {fs : List (Str × V)} {f : Str} {v : V} {A : Around} {E : Value → Shared → Prop}

theorem Inv.made (I : Inv X pins σ H s) : Inv X pins σ (upd (upd H s.heap.objs.size (.own (s.heap.objs.size + 1))) (s.heap.objs.size + 1) (.ins C s.heap.objs.size []))
    { s with heap := (s.heap.push PySem.W.emptyDict).push (PySem.W.instObj C s.heap.objs.size) } := by
  have e1 : (s.heap.push PySem.W.emptyDict).get? s.heap.objs.size = some PySem.W.emptyDict := Heap.get?_push_size s.heap rfl
  have e2 : ((s.heap.push PySem.W.emptyDict).push (PySem.W.instObj C s.heap.objs.size)).get? (s.heap.objs.size + 1) = some (PySem.W.instObj C s.heap.objs.size) := by
    have := Heap.get?_push_size (s.heap.push PySem.W.emptyDict) (o := PySem.W.instObj C s.heap.objs.size) rfl
    rwa [Heap.size_push] at this
  have e3 : (s.heap.push PySem.W.emptyDict).Ns s.heap.objs.size (fun _ => none) := ⟨PySem.W.emptyDict, #[], _, e1, rfl, (fun e he => absurd he (by simp)), fun _ => rfl⟩
  have I1 := I.laid (a := s.heap.objs.size) (o := .own (s.heap.objs.size + 1)) (h' := s.heap.push PySem.W.emptyDict) (t' := s.toks) (fun b u q => Heap.get?_push_of_some _ q) (Nat.le_refl _) ⟨_, e1⟩
  refine I1.laid (a := s.heap.objs.size + 1) (o := .ins C s.heap.objs.size []) (t' := s.toks) (fun b u q => Heap.get?_push_of_some _ q) (Nat.le_of_eq (Heap.size_push _ _)) ?_
  have ne : s.heap.objs.size ≠ s.heap.objs.size + 1 := Nat.ne_of_lt (Nat.lt_succ_self _)
  refine ⟨by rw [upd_ne ne, upd_same], Nat.zero_le _, ne, e2, fun _ => none, (Heap.Ns1.of_empty e3).at fun o q => Heap.get?_push_of_some _ q, fun _ => True.intro, fun y hy => absurd rfl hy⟩

end

section
variable {X : Cx} {o e value : Expr} {f : Str} {pos pos' tpos : Pos} {ta tv : TE}
end

section
variable {X : Cx} {pins : List (Addr × Obj)} {σ : St} {H : Hp} {s : Shared} {A : Around} {E : Value → Shared → Prop} {Q : Value → Shared → Prop} {c : Value} {b : Bool}
inductive TyOf (K : PySem.W.Frag) (H : Hp) : V → Value → Prop where
  | non : TyOf K H .non (.type "NoneType")
  | bl (x : Bool) : TyOf K H (.bl x) (.type "bool")
  | int (i : Int) : TyOf K H (.int i) (.type "int")
  | str (x : Str) : TyOf K H (.str x) (.type "str")
  | flt (x : UInt64) : TyOf K H (.flt x) (.type "float")
  | lst {a : Addr} {xs : List V} (e : H a = some (.lst xs)) : TyOf K H (.ref a) (.type "list")
  | frz {a : Addr} {o : Obj} {xs : List V} (e : H a = some (.frz o (.lst xs))) : TyOf K H (.ref a) (.type "list")
  | tup {a : Addr} {xs : List V} (e : H a = some (.tup xs)) : TyOf K H (.ref a) (.type "tuple")
  | dK {a : Addr} {kvs : List (Key × V)} (e : H a = some (.dK kvs)) : TyOf K H (.ref a) (.type "dict")
  | dT {a : Addr} {kvs : List (List Key × V)} (e : H a = some (.dT kvs)) : TyOf K H (.ref a) (.type "dict")
  | ins {a C dx : Addr} {fs : List (Str × V)} (e : H a = some (.ins C dx fs)) (cl : Cls K C) (ha : PySem.W.findIn K (.ref C) "__class__" = some (some (.builtin "object.__class__")))
      (hn : PySem.W.specialIn K (.builtin "object.__class__") "__get__" = some (some (.builtin "getset_descriptor.__get__"))) (htk : PySem.W.takesIn K (.builtin "object.__class__") = some true)
      (hm : PySem.W.mroIn K C (.type "object") = some true) : TyOf K H (.ref a) (.ref C)
theorem isinst_ok {x : V} {u t : Value} (I : Inv X pins σ H s) (rx : RelV x u) (ty : TyOf X.K H x t) (e : PySem.W.kitOne X.K t c = some b) (h : ∀ tk, Q (.bool b) { s with toks := tk }) :
    wpAny (model X.prog X.w) A (call (.builtin "isinstance") [u, c]) Q E s := by
  cases ty with
  | non => cases (show u = Value.none from rx); exact PySem.W.kia_one PySem.W.kitx_none I.kIn True.intro e (fun z => nomatch z) h
  | bl y => cases (show u = Value.bool y from rx); exact PySem.W.kia_one PySem.W.kitx_bool I.kIn True.intro e (fun z => nomatch z) h
  | int i => obtain ⟨t, q⟩ := (show ∃ t, u = Value.int i t from rx); cases q; exact PySem.W.kia_one PySem.W.kitx_int I.kIn True.intro e (fun z => nomatch z) h
  | str y => obtain ⟨t, q⟩ := (show ∃ t, u = Value.str y t from rx); cases q; exact PySem.W.kia_one PySem.W.kitx_str I.kIn True.intro e (fun z => nomatch z) h
  | flt y => obtain ⟨t, q⟩ := (show ∃ t, u = Value.float y t from rx); cases q; exact PySem.W.kia_one PySem.W.kitx_float I.kIn True.intro e (fun z => nomatch z) h
  | @lst a xs ea =>
    cases (show u = Value.ref a from rx)
    obtain ⟨_, _, n, _, h1⟩ := (show ObjOk X.prog X.w H s.heap a (.lst xs) from I.hok a _ ea)
    exact PySem.W.kia_one PySem.W.kitx_list I.kIn ⟨_, h1, rfl⟩ e (fun z => nomatch z) h
  | @frz a ob xs ea =>
    cases (show u = Value.ref a from rx)
    obtain ⟨_, _, _, n, _, h1⟩ := (show ObjOk X.prog X.w H s.heap a (.frz ob (.lst xs)) from I.hok a _ ea)
    exact PySem.W.kia_one PySem.W.kitx_list I.kIn ⟨_, h1, rfl⟩ e (fun z => nomatch z) h
  | @tup a xs ea =>
    cases (show u = Value.ref a from rx)
    obtain ⟨_, _, _, p⟩ := (show ObjOk X.prog X.w H s.heap a (.tup xs) from I.hok a _ ea)
    obtain ⟨o, h1, h2, _⟩ := p
    exact PySem.W.kia_one PySem.W.kitx_tuple I.kIn ⟨o, h1, h2⟩ e (fun z => nomatch z) h
  | @dK a kvs ea =>
    cases (show u = Value.ref a from rx)
    obtain ⟨_, _, vs, _, p⟩ := (show ObjOk X.prog X.w H s.heap a (.dK kvs) from I.hok a _ ea)
    obtain ⟨o, es, ep, h1, h2, _⟩ := p
    exact PySem.W.kia_one PySem.W.kitx_dict I.kIn ⟨o, h1, h2.1⟩ e (fun z => nomatch z) h
  | @dT a kvs ea =>
    cases (show u = Value.ref a from rx)
    obtain ⟨_, _, xs, _, o, es, ep, h1, h2, _⟩ := (show ObjOk X.prog X.w H s.heap a (.dT kvs) from I.hok a _ ea)
    exact PySem.W.kia_one PySem.W.kitx_dict I.kIn ⟨o, h1, h2.1⟩ e (fun z => nomatch z) h
  | @ins a C dx fs ea cl ha hn htk hm =>
    cases (show u = Value.ref a from rx)
    obtain ⟨mA, O, _⟩ := ins_get I.hok ea
    obtain ⟨od, J, _⟩ := O.look
    exact PySem.W.kia_one (PySem.W.kitx_own (cl.get _) cl.hd ha hn htk hm) I.kIn J e (fun z => nomatch z) h
end
end L2

namespace L2
open PySem PySem.Spec PyProof.Rows

structure Room (k : Nat) (A : Around) : Prop where
  hd : A.handled = none
  dp : A.depth + 3 * k + 5 < recursionLimit
  un : A.units + 16 * k + 200 < cLine
theorem Room.mono {j k : Nat} {A : Around} (r : Room k A) (h : j ≤ k) : Room j A := ⟨r.hd, by have := r.dp; omega, by have := r.un; omega⟩
theorem Room.deeper {k : Nat} {A : Around} (r : Room (k + 1) A) (env : Env) : Room k (A.deeper env) :=
  ⟨r.hd, by have := r.dp; show A.depth + 1 + 3 * k + 5 < _; omega, by have := r.un; show A.units + 3 + 16 * k + 200 < _; omega⟩
theorem Room.in1 {k : Nat} {A : Around} (r : Room (k + 1) A) : Room k A.in1 :=
  ⟨r.hd, by have := r.dp; show A.depth + 3 * k + 5 < _; omega, by have := r.un; show A.units + 1 + 16 * k + 200 < _; omega⟩
theorem Room.depth {k : Nat} {A : Around} (r : Room k A) : A.depth < recursionLimit := by have := r.dp; omega
theorem Room.units {k : Nat} {A : Around} (r : Room k A) : A.units + 64 < cLine := by have := r.un; omega
noncomputable def tNil : TA := fun _ H Q => Q [] H
noncomputable def tCons (ta : TE) (tr : TA) : TA := fun σ H Q => ta σ H fun x H1 => tr σ H1 fun xs H2 => Q (x :: xs) H2
section
variable {X : Cx} {e : Expr} {es : List Expr} {te : TE} {t : TA} {pos : Pos}
theorem pa_nil : PA X [] tNil := fun _ _ _ _ H Q I h => Calls.spliced_nil ⟨[], H, I, .nil, h⟩
theorem pa_cons (ha : PE X e te) (hr : PA X es t) (hs : starEach (e :: es) X.env = (false, eval e X.env) :: starEach es X.env := by rfl) : PA X (e :: es) (tCons te t) := by
  intro pos pins s σ H Q I h
  rw [hs]
  show wpAny _ _ (spliced ((false, eval e X.env) :: backTo pos (starEach es X.env))) _ _ s
  refine Calls.spliced_cons (thn (ha pins s σ H _ I h) fun u s1 ⟨x, H1, I1, r1, q1⟩ => ?_)
  exact thn (hr pos pins s1 σ H1 _ I1 q1) fun us s2 ⟨xs, H2, I2, r2, q2⟩ => ⟨x :: xs, H2, I2, .cons r1 r2, q2⟩

noncomputable def tTup (t : TA) : TE := fun σ H Q => t σ H fun xs H1 => xs.length ≤ sizeLine ∧ ∀ p, H1 p = none → Q (.ref p) (upd H1 p (.tup xs))
noncomputable def tLst (t : TA) : TE := fun σ H Q => t σ H fun xs H1 => xs.length ≤ sizeLine ∧ ∀ p, H1 p = none → Q (.ref p) (upd H1 p (.lst xs))
theorem pe_tup {x1} (h : PA X es t) : PE X (.Tuple es x1 pos) (tTup t) := by
  intro pins s σ H Q I hq
  refine wpAny_Tuple_spliced (thn (h pos pins s σ H _ I hq) fun us s1 ⟨xs, H1, I1, r, z, q⟩ => ⟨by rw [← r.length]; exact z, ?_⟩)
  have hf : H1 s1.heap.objs.size = none := I1.hok.fresh (Nat.le_refl _)
  refine ⟨.ref s1.heap.objs.size, upd H1 s1.heap.objs.size (.tup xs), I1.laid (t' := s1.toks) (fun b u e => Heap.get?_push_of_some _ e) (Nat.le_refl _) ?_, rfl, q _ hf⟩
  exact ⟨z, us, r, ⟨_, Heap.get?_push_size _ rfl, rfl, _, rfl⟩⟩
theorem pe_lst (h : PA X es t) : PE X (.List es pos) (tLst t) := by
  intro pins s σ H Q I hq
  refine wpAny_List_spliced (thn (h pos pins s σ H _ I hq) fun us s1 ⟨xs, H1, I1, r, z, q⟩ => ⟨by rw [← r.length]; exact z, ?_⟩)
  have hf : H1 s1.heap.objs.size = none := I1.hok.fresh (Nat.le_refl _)
  refine ⟨.ref s1.heap.objs.size, upd H1 s1.heap.objs.size (.lst xs), I1.laid (t' := s1.toks) (fun b u e => Heap.get?_push_of_some _ e) (Nat.le_refl _) ?_, rfl, q _ hf⟩
  exact ⟨z, us, 0, r, Heap.get?_push_size _ rfl⟩
end

noncomputable abbrev Sp := List V → Hp → VK → XK → Prop
noncomputable abbrev CXT0 := List Env → Hp → Shared → XK → Value → Shared → Prop
noncomputable abbrev CXT := Option Value → CXT0

structure Env0 (P : Program) (w : World) (K : PySem.W.Frag) (mg : Str → Option Value) (base : Heap) (A : Around) (outer : List Env) (s : Shared) (H : Hp) : Prop where
  frames : A.frames = some outer
  mod : Mod K mg base
  bs : ∀ b o, base.get? b = some o → s.heap.get? b = some o ∧ H b = none
  bsz : base.objs.size ≤ s.heap.objs.size
  funs : s.heap.FunFrames base outer
  frf : ∀ b ∈ frs outer, H b = none
  hok : HOk P w H s.heap
  bare : AllBare s.gens
noncomputable def CE (outer : List Env) (P : Program) (w : World) (H : Hp) (s : Shared) (Q : VK) (u : Value) (s' : Shared) : Prop :=
  ∃ v H', s'.os = s.os ∧ AllBare s'.gens ∧ Un (frs outer) [] H H' s.heap s'.heap ∧ HOk P w H' s'.heap ∧ RelV v u ∧ Q v H'
noncomputable def CR (CX : CXT0) (outer : List Env) (P : Program) (w : World) (H : Hp) (s : Shared) (Q : VK) (E : XK) (r : Result) (s' : Shared) : Prop :=
  match r with
  | .ok (.ret u) => CE outer P w H s Q u s'
  | .ok _ => False
  | .error e => CX outer H s E e s'
structure FnOk (P : Program) (w : World) (K : PySem.W.Frag) (mg : Str → Option Value) (base : Heap) (CX : CXT) (k : Nat) (f : Addr) (fd : FuncData) (ps : List Str) (sp : Sp) : Prop where
  len : ∀ vs H Q E, sp vs H Q E → vs.length = ps.length
  run : ∀ (A : Around) (outer : List Env) (s : Shared) (H : Hp) (args : Args) (us : List Value) (vs : List V) (Q : VK) (E : XK), Room k A → Env0 P w K mg base A outer s H → BindsTo s fd args (ps.zip us) → Vals vs us → sp vs H Q E →
    codeAny (model P w) A (.call (.ref f) args) (CR (CX A.handled) outer P w H s Q E) s
theorem FnOk.mono {P : Program} {w : World} {K : PySem.W.Frag} {mg : Str → Option Value} {base : Heap} {CX : CXT} {j k : Nat} {f : Addr} {fd : FuncData} {ps : List Str} {sp : Sp} (F : FnOk P w K mg base CX j f fd ps sp) (h : j ≤ k) :
    FnOk P w K mg base CX k f fd ps sp := ⟨F.len, fun A outer s H args us vs Q E hr => F.run A outer s H args us vs Q E (hr.mono h)⟩
theorem FnOk.imp {P : Program} {w : World} {K : PySem.W.Frag} {mg : Str → Option Value} {base : Heap} {CX : CXT} {k : Nat} {f : Addr} {fd : FuncData} {ps : List Str} {sp sp' : Sp} (F : FnOk P w K mg base CX k f fd ps sp)
    (h : ∀ vs H Q E, sp' vs H Q E → sp vs H Q E) : FnOk P w K mg base CX k f fd ps sp' :=
  ⟨fun vs H Q E q => F.len vs H Q E (h _ _ _ _ q), fun A outer s H args us vs Q E hr he hb hv hs => F.run A outer s H args us vs Q E hr he hb hv (h _ _ _ _ hs)⟩

theorem Env0.in1 {P : Program} {w : World} {K : PySem.W.Frag} {mg : Str → Option Value} {base : Heap} {A : Around} {outer : List Env} {s : Shared} {H : Hp} (e : Env0 P w K mg base A outer s H) :
    Env0 P w K mg base A.in1 outer s H := ⟨e.frames, e.mod, e.bs, e.bsz, e.funs, e.frf, e.hok, e.bare⟩

section
variable {X : Cx} {pins : List (Addr × Obj)} {σ : St} {H : Hp} {s s' : Shared}
theorem Inv.env0 (I : Inv X pins σ H s) : Env0 X.prog X.w X.K X.mg X.base X.A X.stack s H :=
  ⟨I.ok.frames, I.ok.mod, I.bs, Nat.le_trans I.ok.bsz I.sz, I.stack, I.stkFree, I.hok, I.bare⟩
theorem Inv.after {Q : VK} {u : Value} (I : Inv X pins σ H s) (h : CE X.stack X.prog X.w H s Q u s') : EP X pins σ Q u s' := by
  obtain ⟨v, H', os, bare, un, hok, r, q⟩ := h
  obtain ⟨hh, g, d, t, os'⟩ := s'
  obtain rfl : os' = s.os := os
  exact ⟨v, H', I.call (h' := hh) (g' := g) (d' := d) (t' := t) (ch := []) un hok bare (fun b z => absurd z (by simp)), r, q⟩
end

noncomputable def tCall (sp : Sp) (dvs : List V) (E : XK) (t : TA) : TE := fun σ H Q => t σ H fun vs H1 => sp (vs ++ dvs) H1 Q E
noncomputable def Binds (K : PySem.W.Frag) (fd : FuncData) (ps : List Str) (ds : List Value) : Prop :=
  ∀ (s : Shared) (us : List Value), K.In s.heap → (us ++ ds).length = ps.length → BindsTo s fd ⟨us, []⟩ (ps.zip (us ++ ds))
theorem Binds.all {K : PySem.W.Frag} {fd : FuncData} {ps : List Str} (h : ∀ us : List Value, us.length = ps.length → bindArgs fd ⟨us, []⟩ = pure (ps.zip us)) : Binds K fd ps [] := fun s us _ hl => by
  rw [List.append_nil] at hl ⊢
  exact .of_eq (h us hl)

noncomputable def Passes (CX : CXT) (X : Cx) (E : XK) : Prop := ∀ (pins : List (Addr × Obj)) (σ : St) (H : Hp) (s : Shared) (e : Value) (s' : Shared), Inv X pins σ H s → CX X.A.handled X.stack H s E e s' → X.xe e s'

section
variable {X : Cx} {CX : CXT} {k : Nat} {f C : Addr} {fd : FuncData} {ps : List Str} {sp : Sp} {dvs : List V} {ds : List Value} {E : XK} {x m : Str} {p pos apos : Pos} {e o : Expr} {es : List Expr} {ta : TE} {t : TA}

theorem run_fn {pins : List (Addr × Obj)} {σ : St} {H : Hp} {s : Shared} {Q : VK} {us : List Value} {vs : List V} (F : FnOk X.prog X.w X.K X.mg X.base CX k f fd ps sp) (hr : Room k X.A) (hb : Binds X.K fd ps ds) (hd : Vals dvs ds) (hx : Passes CX X E)
    (I : Inv X pins σ H s) (r : Vals vs us) (h : sp (vs ++ dvs) H Q E) : wpAny (model X.prog X.w) X.A (call (.ref f) us) (EP X pins σ Q) X.xe s := by
  have r2 : Vals (vs ++ dvs) (us ++ ds) := r.append hd
  have hl : (us ++ ds).length = ps.length := by rw [← r2.length]; exact F.len _ _ _ _ h
  refine wpAny_call (codeAny_mono (F.run X.A X.stack s H ⟨us, []⟩ (us ++ ds) (vs ++ dvs) Q E hr I.env0 (hb s us I.kIn hl) r2 h) fun r s' hq => ?_)
  cases r with
  | error e => exact hx pins σ H s e s' I hq
  | ok fl =>
    cases fl with
    | ret u => exact I.after hq
    | next => exact False.elim hq
    | brk => exact False.elim hq
    | cont => exact False.elim hq

theorem pe_call (F : FnOk X.prog X.w X.K X.mg X.base CX k f fd ps sp) (hr : Room k X.A) (hg : Gl X x) (hm : X.mg x = some (.ref f)) (hk : PySem.W.keepIn X.K (.ref f) = true) (hb : Binds X.K fd ps ds) (hd : Vals dvs ds) (hx : Passes CX X E)
    (ha : PA X (e :: es) t) (hdb : (x == ("__debug__" : Str)) = false := by decide) (he : starEach (e :: es) X.env = (false, eval e X.env) :: starEach es X.env := by rfl) (hpl : (backTo pos (starEach es X.env)).any (·.1) = false := by rfl) :
    PE X (.Call (.Name x p) (e :: es) [] pos) (tCall sp dvs E t) := by
  intro pins s σ H Q I h
  refine wpAny_Call_Name_kw (ld_glob I hg hm ?_ hdb)
  refine PySem.W.callWith_K (h₀ := X.base) I.ok.mod.kin hk (thn (ha pos pins s σ H _ I h) fun us s1 ⟨vs, H1, I1, r, q⟩ => ⟨I1.kIn, ?_⟩) he hpl
  exact run_fn F hr hb hd hx I1 r q
end

section
variable {X : Cx} {CX : CXT} {k : Nat} {f C : Addr} {fd : FuncData} {ps ks : List Str} {sp : Sp} {E : XK} {x m : Str} {p pos apos kpos : Pos} {e o : Expr} {es : List Expr} {kws : List Keyword} {te ta : TE} {t tk : TA} {nm : Option Str}
variable {g : List Value → List Value → List Value} {gV : List V → List V → List V}
end

structure FnScope (N P : List Str) (sc : Scope) : Prop where
  kind : sc.kind = .function
  co : sc.isCoroutine = false
  gen : sc.isGenerator = false
  nd : N.Nodup
  pre : N.take P.length = P
  par : ∀ x ∈ P, sc.names.lookup x = some .local ∨ sc.names.lookup x = some .cell
  nofree : ∀ y ∈ sc.names, y.2 ≠ .free

theorem bindL_out {kindOf : Str → Option NameKind} {x : Str} : ∀ {binds : List (Str × Value)} {m : Str → Option Value}, (∀ v, (x, v) ∉ binds) → bindL kindOf binds m x = m x
  | [], _, _ => rfl
  | (n, v) :: r, m, h => by
    unfold bindL
    rw [bindL_out fun w hw => h w (List.mem_cons_of_mem _ hw)]
    split
    · have : x ≠ n := by rintro rfl; exact h v List.mem_cons_self
      simp [this]
    · rfl
theorem bindC_out {kindOf : Str → Option NameKind} {x : Str} : ∀ {binds : List (Str × Value)} {m : Str → Option Value}, (∀ v, (x, v) ∉ binds) → bindC kindOf binds m x = m x
  | [], _, _ => rfl
  | (n, v) :: r, m, h => by
    unfold bindC
    rw [bindC_out fun w hw => h w (List.mem_cons_of_mem _ hw)]
    split
    · rfl
    · have : x ≠ n := by rintro rfl; exact h v List.mem_cons_self
      simp [this]
theorem bindL_get {kindOf : Str → Option NameKind} {x : Str} {v : Value} : ∀ {P : List Str} {vs : List Value} {i : Nat} {m : Str → Option Value}, P.Nodup → P[i]? = some x → vs[i]? = some v → kindOf x = some .local →
    bindL kindOf (P.zip vs) m x = some v
  | [], _, _, _, _, h, _, _ => by simp at h
  | _ :: _, [], _, _, _, _, h, _ => by simp at h
  | p :: P, w :: vs, 0, m, nd, h1, h2, hk => by
    simp at h1 h2; subst h1; subst h2
    show bindL kindOf ((p, w) :: P.zip vs) m p = _
    unfold bindL
    rw [bindL_out fun v hv => (List.nodup_cons.mp nd).1 (List.of_mem_zip hv).1, if_pos hk]
    simp
  | p :: P, w :: vs, i + 1, m, nd, h1, h2, hk => by
    show bindL kindOf ((p, w) :: P.zip vs) m x = _
    unfold bindL
    exact bindL_get (i := i) (List.nodup_cons.mp nd).2 (by simpa using h1) (by simpa using h2) hk
theorem bindC_get {kindOf : Str → Option NameKind} {x : Str} {v : Value} : ∀ {P : List Str} {vs : List Value} {i : Nat} {m : Str → Option Value}, P.Nodup → P[i]? = some x → vs[i]? = some v → kindOf x ≠ some .local →
    bindC kindOf (P.zip vs) m x = some v
  | [], _, _, _, _, h, _, _ => by simp at h
  | _ :: _, [], _, _, _, _, h, _ => by simp at h
  | p :: P, w :: vs, 0, m, nd, h1, h2, hk => by
    simp at h1 h2; subst h1; subst h2
    show bindC kindOf ((p, w) :: P.zip vs) m p = _
    unfold bindC
    rw [bindC_out fun v hv => (List.nodup_cons.mp nd).1 (List.of_mem_zip hv).1, if_neg hk]
    simp
  | p :: P, w :: vs, i + 1, m, nd, h1, h2, hk => by
    show bindC kindOf ((p, w) :: P.zip vs) m x = _
    unfold bindC
    exact bindC_get (i := i) (List.nodup_cons.mp nd).2 (by simpa using h1) (by simpa using h2) hk

noncomputable def start (N : List Str) (vs : List V) : St := vs.map some ++ List.replicate (N.length - vs.length) none

noncomputable def cxOf (CX : CXT) (P : Program) (w : World) (K : PySem.W.Frag) (mg : Str → Option Value) (base : Heap) (N : List Str) (qual : Str) (scope : Scope) (f : Addr) (cd : Value) (A : Around) (outer : List Env) (s : Shared) (H : Hp) (E : XK) : Cx where
  prog := P
  w := w
  K := K
  mg := mg
  base := base
  A := A.deeper (envOfC qual scope s.heap.objs.size f cd)
  N := N
  s₀ := s
  H₀ := H
  env := envOfC qual scope s.heap.objs.size f cd
  outer := outer
  stack := envOfC qual scope s.heap.objs.size f cd :: outer
  ex := []
  calm := true
  fn := fun _ => true
  pn := []
  xe := fun e s' => wpAny (model P w) (A.deeper (envOfC qual scope s.heap.objs.size f cd)) («leaving» (envOfC qual scope s.heap.objs.size f cd) e) (fun _ s'' => CX A.handled outer H s E e s'') (fun e' s'' => CX A.handled outer H s E e' s'') s'

theorem cell_has {sc : Scope} {n : Nat} {x : Str} (h : sc.names.lookup x = some .cell) : ∃ c, (cellsFrom n sc.names []).lookup x = some c := by
  have q := PySem.W.cellsFrom_some sc.names n [] (.inl h)
  exact Option.isSome_iff_exists.mp q

theorem inv_start {CX : CXT} {P : Program} {w : World} {K : PySem.W.Frag} {mg : Str → Option Value} {base : Heap} {N ps : List Str} {qual : Str} {scope : Scope} {f : Addr} {cd : Value} {A : Around} {outer : List Env} {s s1 : Shared} {H : Hp} {E : XK} {us : List Value} {vs : List V}
    (S : FnScope N ps scope) (hd : HS A base) (e0 : Env0 P w K mg base A outer s H) (hl : vs.length = ps.length) (r : Vals vs us)
    (x : InCallC s s.heap.objs.size (bindL (envOfC qual scope s.heap.objs.size f cd).kindOf (ps.zip us) fun _ => none) (cellsFrom (s.heap.objs.size + 1) scope.names []) (bindC (envOfC qual scope s.heap.objs.size f cd).kindOf (ps.zip us) fun _ => none) s1) :
    Inv (cxOf CX P w K mg base N qual scope f cd A outer s H E) [] (start N vs) H s1 := by
  have hpl : ps.length ≤ N.length := by have := congrArg List.length S.pre; rw [List.length_take] at this; omega
  obtain ⟨h1, tk, rfl, hk⟩ := x.done
  have noA : ∀ b : Addr, b ∉ (cxOf CX P w K mg base N qual scope f cd A outer s H E).ex := fun b z => absurd (show b ∈ ([] : List Addr) from z) (by simp)
  refine ⟨⟨e0.mod, S.kind, rfl, rfl, Nat.le_refl _, fun y z c h1 h2 => ?_, fun y hy => ?_, fun y c _ h => ?_, fun _ => hd, Around.frames_deeper e0.frames, .inr ⟨rfl, rfl⟩, fun b z => absurd z (noA b), e0.bs, e0.bsz, fun b _ _ => noA b, fun b z => absurd z (noA b), e0.funs, e0.frf⟩,
    rfl, e0.bare, Un.kept hk, ⟨_, x.toInCall.ns, fun i y v h1 h2 h3 => ?_⟩, fun y c h => ⟨_, x.cell y c h⟩, e0.hok.fresh (Nat.le_refl _), fun y c h => ?_, fun p hp => absurd (show p ∈ ([] : List (Addr × Obj)) from hp) (by simp), e0.hok.kept hk, ?_⟩
  · exact name_of_addr x.apart (PySem.mem_of_lookup h1) (PySem.mem_of_lookup h2)
  · have hy : scope.names.lookup y = some .cell ∨ scope.names.lookup y = some .free := hy
    rcases hy with hy | hy
    · exact cell_has hy
    · exact absurd rfl (S.nofree _ (PySem.mem_of_lookup hy))
  · exact Nat.le_of_lt (x.above y c (PySem.mem_of_lookup h))
  · have hi : i < vs.length := by
      unfold start at h2
      by_cases hi : i < vs.length
      · exact hi
      · rw [List.getElem?_append_right (by simpa using hi)] at h2
        rw [List.getElem?_replicate] at h2
        split at h2 <;> cases h2
    have ha : vs[i]? = some v := by
      unfold start at h2
      rw [List.getElem?_append_left (by simpa using hi), List.getElem?_map] at h2
      cases e : vs[i]? with
      | none => rw [e] at h2; cases h2
      | some a => rw [e] at h2; cases h2; rfl
    obtain ⟨u, hu, rv⟩ := r.get ha
    have hp : ps[i]? = some y := by
      rw [← S.pre, List.getElem?_take_of_lt (by omega)]; exact h1
    have ndP : ps.Nodup := by rw [← S.pre]; exact S.nd.sublist (List.take_sublist _ _)
    refine ⟨u, rv, ?_⟩
    rcases S.par y (List.mem_of_getElem? hp) with k | k
    · exact .inl ⟨k, bindL_get ndP hp hu k⟩
    · obtain ⟨c, e⟩ := cell_has (n := s.heap.objs.size + 1) k
      refine .inr ⟨.inl k, c, e, ?_⟩
      have q := x.cell y c e
      rw [bindC_get ndP hp hu (by show scope.names.lookup y ≠ _; rw [k]; decide)] at q
      exact q
  · exact e0.hok.fresh (Nat.le_of_lt (x.above y c (PySem.mem_of_lookup h)))
  · unfold start
    show _ = N.length
    rw [List.length_append, List.length_map, List.length_replicate]
    omega

theorem fn_of {CX : CXT} {P : Program} {w : World} {K : PySem.W.Frag} {mg : Str → Option Value} {base : Heap} {k : Nat} {f : Addr} {name qual : Str} {params : Arguments} {body : List Stmt} {scope : Scope} {dV kV doc pm cdv ct oc : Value} {an od : Option Addr}
    {osl : Array (Option Value)} {N ps : List Str} {sp : Sp} (lk : K.lookup f = some ⟨oc, od, .func (PySem.W.fnOf name qual params body scope dV kV doc pm an cdv ct), osl⟩) (hcd : PySem.W.codeIn K cdv qual = true) (S : FnScope N ps scope)
    (len : ∀ vs H Q E, sp vs H Q E → vs.length = ps.length)
    (hbody : ∀ (A : Around) (outer : List Env) (s : Shared) (H : Hp) (vs : List V) (Q : VK) (E : XK), Room k (A.deeper (envOfC qual scope s.heap.objs.size f cdv)) → sp vs H Q E →
      ∃ t, PSs (cxOf CX P w K mg base N qual scope f cdv A outer s H E) body t ∧ t { nx := fun _ H' => Q .non H', rt := Q } (start N vs) H) :
    FnOk P w K mg base CX (k + 1) f (PySem.W.fnOf name qual params body scope dV kV doc pm an cdv ct) ps sp := by
  refine ⟨len, fun A outer s H args us vs Q E hr e0 hb r hsp => ?_⟩
  have hl := len _ _ _ _ hsp
  have KX : K.In s.heap := e0.mod.kin.keeps fun b o e => (e0.bs b o e).1
  have lim : s.heap.NoLimit := e0.mod.nolimit.keeps fun b o e => (e0.bs b o e).1
  have hkind : ∀ y ∈ ps.zip us, scope.names.lookup y.1 = some .local ∨ (scope.names.lookup y.1 = some .cell ∧ ((cellsFrom (s.heap.objs.size + 1) scope.names []).lookup y.1).isSome = true) := fun ⟨n, v⟩ hy => by
    rcases S.par n (List.of_mem_zip hy).1 with q | q
    · exact .inl q
    · exact .inr ⟨q, PySem.W.cellsFrom_some _ _ _ (.inl q)⟩
  refine codeAny_call_function hr.depth (KX _ _ lk) rfl S.co S.gen rfl (PySem.W.codeRec_of KX hcd) (hb _ _ _ _ ?_)
  refine wpAny_newFunctionEnv_cells S.kind hkind fun env he s1 x => ?_
  subst he
  refine ⟨lim.keeps x.toInCall.keep, codeAny_func ?_⟩
  obtain ⟨t, ht, hq⟩ := hbody A outer s H vs Q E (hr.deeper _) hsp
  have I : Inv (cxOf CX P w K mg base N qual scope f cdv A outer s H E) [] (start N vs) H s1 := inv_start S (.inl hr.hd) e0 hl r x
  refine wpAny_mono (ht [] s1 (start N vs) H _ I hq) (fun fl s' hs => ?_) fun e s' hs => hs
  have fin : ∀ {σ' : St} {H' : Hp} {v : V} {u : Value}, Inv (cxOf CX P w K mg base N qual scope f cdv A outer s H E) [] σ' H' s' → RelV v u → Q v H' → CE outer P w H s Q u s' :=
    fun {σ' H' v u} J rv q => ⟨v, H', J.os, J.bare, J.base, J.hok, rv, q⟩
  cases fl with
  | ret u =>
    obtain ⟨v, σ', H', J, rv, q⟩ := hs
    exact fin J rv q
  | next =>
    obtain ⟨σ', H', J, q⟩ := hs
    exact fin (v := V.non) (u := Value.none) J rfl q
  | brk =>
    obtain ⟨_, _, _, q⟩ := hs
    exact False.elim q
  | cont =>
    obtain ⟨_, _, _, q⟩ := hs
    exact False.elim q
end L2

namespace L2
open PySem PySem.Spec PyProof.Rows
section
variable {X : Cx} {x : Str} {p pos : Pos} {e : Expr} {es : List Expr} {t : TA} {id T : String} {r : List V → Hp → VK → Prop}

noncomputable def tCB (r : List V → Hp → VK → Prop) (t : TA) : TE := fun σ H Q => t σ H fun vs H1 => r vs H1 Q
theorem pe_callB (hc : CallR X (.builtin id) r) (hg : Gl X x) (hm : X.mg x = none) (hv : bootBuiltins x = some (.builtin id)) (ha : PA X (e :: es) t) (hn : x ≠ "__name__" := by decide) (hdb : (x == ("__debug__" : Str)) = false := by decide)
    (he : starEach (e :: es) X.env = (false, eval e X.env) :: starEach es X.env := by rfl) (hpl : (backTo pos (starEach es X.env)).any (·.1) = false := by rfl) : PE X (.Call (.Name x p) (e :: es) [] pos) (tCB r t) := by
  intro pins s σ H Q I h
  refine wpAny_Call_Name_kw (ld_blt I hg hm hv ?_ hn hdb)
  exact PyProof.Rows.callWith_builtin1 (thn (ha pos pins s σ H _ I h) fun us s1 ⟨vs, H1, I1, r1, q1⟩ => hc pins s1 σ H1 vs us Q I1 r1 q1) he hpl
theorem pe_callTy (hc : CallR X (.type T) r) (hg : Gl X x) (hm : X.mg x = none) (hv : bootBuiltins x = some (.type T)) (ha : PA X (e :: es) t) (hn : x ≠ "__name__" := by decide) (hdb : (x == ("__debug__" : Str)) = false := by decide)
    (he : starEach (e :: es) X.env = (false, eval e X.env) :: starEach es X.env := by rfl) (hpl : (backTo pos (starEach es X.env)).any (·.1) = false := by rfl) : PE X (.Call (.Name x p) (e :: es) [] pos) (tCB r t) := by
  intro pins s σ H Q I h
  refine wpAny_Call_Name_kw (ld_blt I hg hm hv ?_ hn hdb)
  exact PyProof.Rows.callWith_type1 (thn (ha pos pins s σ H _ I h) fun us s1 ⟨vs, H1, I1, r1, q1⟩ => hc pins s1 σ H1 vs us Q I1 r1 q1) he hpl
end
end L2

namespace HT
open PySem PyProof.Rows

section
open PySem.SeqAt
open PySem.AutoSeq1 (wpAny_loadPart')
open PySem.MeetsSeq PySem.MeetsSeq2 PySem.MeetsSeq3

end

section
variable {prog : Program} {w : World} {A : Around} {E : Value → Shared → Prop} {s : Shared}

noncomputable def sIx (n d : Nat) : Option Int → Nat
  | none => d
  | some v => if v < 0 then (v + (n : Int)).toNat else min v.toNat n
theorem sIx_none (n d : Nat) : sIx n d none = d := rfl
theorem sIx_nat (n d k : Nat) : sIx n d (some (k : Int)) = min k n := by
  show (if (k : Int) < 0 then ((k : Int) + (n : Int)).toNat else min (k : Int).toNat n) = min k n
  rw [if_neg (by omega), Int.toNat_natCast]
end
end HT

namespace L2
open PySem PySem.Spec PyProof.Rows

noncomputable abbrev TO := St → Hp → (Option Int → Hp → Prop) → Prop
noncomputable def PO (X : Cx) (e : Option Expr) (t : TO) : Prop :=
  ∀ (pins : List (Addr × Obj)) (s : Shared) (σ : St) (H : Hp) (Q : Option Int → Hp → Prop), Inv X pins σ H s → t σ H Q →
    wpAny (model X.prog X.w) X.A (evalPart e X.env) (fun u s' => ∃ o H', Inv X pins σ H' s' ∧ IsPart u o ∧ Q o H') X.xe s
noncomputable def tNoPart : TO := fun _ H Q => Q none H
noncomputable def tPart (t : TE) : TO := fun σ H Q => t σ H fun x H1 => ∃ i, x = .int i ∧ Q (some i) H1

section
variable {X : Cx} {e : Expr} {te : TE} {lo hi : Option Expr} {tl th : TO} {pos p2 : Pos}

theorem po_none : PO X none tNoPart := by
  intro pins s σ H Q I h
  rw [evalPart_none]
  exact wpAny_pure ⟨none, H, I, .none, h⟩
theorem po_some (h : PE X e te) : PO X (some e) (tPart te) := by
  intro pins s σ H Q I hw
  rw [evalPart_some]
  refine thn (h pins s σ H _ I hw) fun u s1 ⟨x, H1, I1, r1, q1⟩ => ?_
  obtain ⟨i, rfl, q⟩ := q1
  obtain ⟨t, rfl⟩ := r1
  exact ⟨some i, H1, I1, .int i t, q⟩

noncomputable def SlR (X : Cx) (r : V → Option Int → Option Int → Hp → VK → Prop) : Prop :=
  ∀ (pins : List (Addr × Obj)) (s : Shared) (σ : St) (H : Hp) (x : V) (v vl vu : Value) (lo hi : Option Int) (sl : Addr) (Q : VK), Inv X pins σ H s → RelV x v → s.heap.IsSliceOf sl vl vu .none → IsPart vl lo → IsPart vu hi → r x lo hi H Q →
    ∃ T id, typeLookup (.type T) "__getitem__" = pure (some (.builtin id)) ∧ s.TypeIs v T ∧ wpAny (model X.prog X.w) X.A (getItem v (.ref sl)) (EP X pins σ Q) X.xe s
theorem SlR.or {r r' : V → Option Int → Option Int → Hp → VK → Prop} (h : SlR X r) (h' : SlR X r') : SlR X (fun x lo hi H Q => r x lo hi H Q ∨ r' x lo hi H Q) := by
  intro pins s σ H x v vl vu lo hi sl Q I rx hs pl pu q
  rcases q with q | q
  · exact h pins s σ H x v vl vu lo hi sl Q I rx hs pl pu q
  · exact h' pins s σ H x v vl vu lo hi sl Q I rx hs pl pu q
noncomputable def tSl (r : V → Option Int → Option Int → Hp → VK → Prop) (te : TE) (tl th : TO) : TE := fun σ H Q => te σ H fun x H1 => tl σ H1 fun l H2 => th σ H2 fun u H3 => r x l u H3 Q
theorem pe_slice {r : V → Option Int → Option Int → Hp → VK → Prop} (hr : SlR X r) (he : PE X e te) (hl : PO X lo tl) (hu : PO X hi th) : PE X (.Subscript e (.Slice lo hi none p2) pos) (tSl r te tl th) := by
  intro pins s σ H Q I h
  refine Subscript_ (thn (he pins s σ H _ I h) fun v s1 ⟨x, H1, I1, r1, q1⟩ => ?_)
  refine wpAny_Slice (thn (hl pins s1 σ H1 _ I1 q1) fun vl s2 ⟨l, H2, I2, pl, q2⟩ => thn (hu pins s2 σ H2 _ I2 q2) fun vu s3 ⟨u, H3, I3, pu, q3⟩ => ?_)
  rw [evalPart_none]
  refine wpAny_pure ?_
  have I4 : Inv X pins σ H3 { s3 with heap := s3.heap.push { cls := .type "slice", data := .fields #[vl, vu, .none] } } := I3.kept (t' := s3.toks) fun b ob q => Heap.get?_push_of_some _ q
  obtain ⟨T, id, hT, ht, hg⟩ := hr pins { s3 with heap := s3.heap.push { cls := .type "slice", data := .fields #[vl, vu, .none] } } σ H3 x v vl vu l u s3.heap.objs.size Q I4 r1 (Heap.IsSliceOf.new ..) pl pu q3
  show wpAny (model X.prog X.w) X.A (subscriptTail e (.Slice lo hi none p2) v (.ref s3.heap.objs.size)) (EP X pins σ Q) X.xe { s3 with heap := s3.heap.push { cls := .type "slice", data := .fields #[vl, vu, .none] } }
  exact tail_any (ops := [.ref s3.heap.objs.size, v]) ht hT hg (by with_unfolding_all rfl)

noncomputable def cutV (xs : List V) (lo hi : Option Int) : List V := (xs.drop (HT.sIx xs.length 0 lo)).take (HT.sIx xs.length xs.length hi - HT.sIx xs.length 0 lo)
theorem cutV_length (xs : List V) (lo hi : Option Int) : (cutV xs lo hi).length ≤ xs.length := by
  unfold cutV
  rw [List.length_take, List.length_drop]
  omega
end
end L2

namespace L2
open PySem PySem.Spec PyProof.Rows

noncomputable def ixN (n : Nat) (i : Int) : Option Nat := if 0 ≤ i then (if i < n then some i.toNat else none) else if -(n : Int) ≤ i then some (i + n).toNat else none
noncomputable def atI {α : Type} (xs : List α) (i : Int) : Option α := (ixN xs.length i).bind fun j => xs[j]?
theorem ixN_seq {n : Nat} {i : Int} {j : Nat} (h : ixN n i = some j) : seqIndex? i n = some j ∧ j < n ∧ -(n : Int) ≤ i ∧ i < n := by
  unfold ixN at h
  by_cases h0 : 0 ≤ i
  · rw [if_pos h0] at h
    by_cases h1 : i < n
    · rw [if_pos h1] at h
      have e : i.toNat = j := Option.some.inj h
      exact ⟨by rw [seqIndex_of h0 h1, e], by omega, by omega, h1⟩
    · rw [if_neg h1] at h; cases h
  · rw [if_neg h0] at h
    by_cases h1 : -(n : Int) ≤ i
    · rw [if_pos h1] at h
      have e : (i + n).toNat = j := Option.some.inj h
      exact ⟨by rw [seqIndex_neg (by omega) h1, e], by omega, h1, by omega⟩
    · rw [if_neg h1] at h; cases h
theorem atI_get {α : Type} {xs : List α} {i : Int} {v : α} (h : atI xs i = some v) : ∃ j, seqIndex? i xs.length = some j ∧ xs[j]? = some v ∧ j < xs.length ∧ -(xs.length : Int) ≤ i ∧ i < xs.length := by
  unfold atI at h
  cases e : ixN xs.length i with
  | none => rw [e] at h; cases h
  | some j =>
    rw [e] at h
    obtain ⟨h1, h2, h3, h4⟩ := ixN_seq e
    exact ⟨j, h1, h, h2, h3, h4⟩
theorem atI_nat {α : Type} {xs : List α} {j : Nat} {v : α} (h : xs[j]? = some v) : atI xs (j : Int) = some v := by
  have hj : j < xs.length := (List.getElem?_eq_some_iff.mp h).1
  have e : ixN xs.length (j : Int) = some j := by
    unfold ixN
    rw [if_pos (by omega), if_pos (by omega)]; simp
  unfold atI; rw [e]; exact h
noncomputable def PlainIx (b : Expr) : Prop := ∀ o i, subscripted b false o i = operate [o, i] (getItem o i)
noncomputable def IxR (X : Cx) (r : R2) : Prop :=
  ∀ (value slice : Expr) (pins : List (Addr × Obj)) (s : Shared) (σ : St) (H : Hp) (x y : V) (v u : Value) (Q : VK), Inv X pins σ H s → RelV x v → RelV y u → r x y H Q →
    subscripted slice false v u = operate [v, u] (getItem v u) → wpAny (model X.prog X.w) X.A (subscriptTail value slice v u) (EP X pins σ Q) X.xe s
noncomputable def MtR (X : Cx) (id : String) (r : V → List V → Hp → VK → Prop) : Prop :=
  ∀ (pins : List (Addr × Obj)) (s : Shared) (σ : St) (H : Hp) (x : V) (xs : List V) (v : Value) (us : List Value) (Q : VK), Inv X pins σ H s → RelV x v → Vals xs us → r x xs H Q →
    wpAny (model X.prog X.w) X.A (call (.builtin id) (v :: us)) (EP X pins σ Q) X.xe s
section
variable {X : Cx} {a b : Expr} {ta tb : TE} {pos : Pos}
theorem IxR.or {r r' : R2} (h : IxR X r) (h' : IxR X r') : IxR X (fun x y H Q => r x y H Q ∨ r' x y H Q) := by
  intro value slice pins s σ H x y v u Q I rx ry q hs
  rcases q with q | q
  · exact h value slice pins s σ H x y v u Q I rx ry q hs
  · exact h' value slice pins s σ H x y v u Q I rx ry q hs
theorem MtR.or {id : String} {r r' : V → List V → Hp → VK → Prop} (h : MtR X id r) (h' : MtR X id r') : MtR X id (fun x xs H Q => r x xs H Q ∨ r' x xs H Q) := by
  intro pins s σ H x xs v us Q I rx rs q
  rcases q with q | q
  · exact h pins s σ H x xs v us Q I rx rs q
  · exact h' pins s σ H x xs v us Q I rx rs q
theorem pe_ix {r : R2} (hr : IxR X r) (ha : PE X a ta) (hb : PE X b tb) (hs : PlainIx b) : PE X (.Subscript a b pos) (tOp r ta tb) := by
  intro pins s σ H Q I h
  exact Subscript_ (binT ha hb I h fun v u s2 x y H2 I2 rx ry q => hr a b pins s2 σ H2 x y v u Q I2 rx ry q (hs _ _))

noncomputable def rIxL (K : PySem.W.Frag) : R2 := fun x y H Q => ∃ p xs i v, x = .ref p ∧ y = .int i ∧ SqL K H p xs ∧ atI xs i = some v ∧ Q v H
noncomputable def rIxT (K : PySem.W.Frag) : R2 := fun x y H Q => ∃ p xs i v, x = .ref p ∧ y = .int i ∧ SqT K H p xs ∧ atI xs i = some v ∧ Q v H
noncomputable def rIxS : R2 := fun x y H Q => ∃ z i c, x = .str z ∧ y = .int i ∧ z.length ≤ sizeLine ∧ atI z.cps.toList i = some c ∧ Q (.str ⟨#[c]⟩) H
theorem ix_list : IxR X (rIxL X.K) := by
  intro value slice pins s σ H x y v u Q I rx ry h hs
  obtain ⟨p, xs, i, z, rfl, rfl, hq, he, q⟩ := h
  cases rx
  obtain ⟨t, rfl⟩ := ry
  obtain ⟨its, r, pl, hz⟩ := I.list hq
  obtain ⟨j, h1, h2, h3, h4, h5⟩ := atI_get he
  obtain ⟨w, ew, rw'⟩ := r.get h2
  have hl := r.length
  have hn := line63
  have fin : EP X pins σ Q w s := ⟨z, H, I, rw', q⟩
  by_cases h0 : 0 ≤ i
  · have hj : i.toNat = j := by
      rw [seqIndex_of h0 h5] at h1
      exact Option.some.inj h1
    exact item_listR pl.isList h0 (by omega) (by rw [hj]; simpa using ew) fin hs
  · have hj : (i + (its.toArray.size : Int)).toNat = j := by
      rw [seqIndex_neg (by omega) h4] at h1
      rw [List.size_toArray, ← hl]
      exact Option.some.inj h1
    exact subscriptTail_builtinR (x := w) pl.isList.typeIs slot_list_getitem.lookup
      (wpAny_getItem_list_neg (Q := fun r s' => r = w ∧ EP X pins σ Q r s') pl.isList (by omega) (by rw [List.size_toArray] <;> omega) (by omega) (by rw [hj]; simpa using ew) ⟨rfl, fin⟩) hs
theorem ix_tup : IxR X (rIxT X.K) := by
  intro value slice pins s σ H x y v u Q I rx ry h hs
  obtain ⟨p, xs, i, z, rfl, rfl, hq, he, q⟩ := h
  cases rx
  obtain ⟨t, rfl⟩ := ry
  obtain ⟨its, r, pl, hz⟩ := I.tuple hq
  obtain ⟨j, h1, h2, h3, h4, h5⟩ := atI_get he
  obtain ⟨w, ew, rw'⟩ := r.get h2
  have hl := r.length
  have hn := line63
  have fin : EP X pins σ Q w s := ⟨z, H, I, rw', q⟩
  exact subscriptTail_builtinR (x := w) pl.typeIs slot_tuple_getitem.lookup
    (getItem_tuple (j := j) (Q := fun r s' => r = w ∧ EP X pins σ Q r s') pl (by omega) (by omega) (by rw [List.size_toArray, ← hl]; exact h1) (by simpa using ew) ⟨rfl, fin⟩) hs
theorem ix_str : IxR X rIxS := by
  intro value slice pins s σ H x y v u Q I rx ry h hs
  obtain ⟨z, i, c, rfl, rfl, hz, he, q⟩ := h
  obtain ⟨t, rfl⟩ := rx
  obtain ⟨t', rfl⟩ := ry
  obtain ⟨j, h1, h2, h3, h4, h5⟩ := atI_get he
  have hl : z.cps.toList.length = z.length := by simp [Str.length]
  rw [hl] at h1 h4 h5
  have hn := line63
  exact tail_any (typeIs_str s z t) slot_str_getitem.lookup (getItem_str (c := c) (by
    have e1 : decide (i < -(2 ^ 63 : Int)) = false := decide_eq_false (by omega)
    have e2 : decide (i ≥ 2 ^ 63) = false := decide_eq_false (by omega)
    rw [e1, e2, Bool.or_false]) (by rw [h1]; simpa using h2) ⟨.str ⟨#[c]⟩, H, I.tok _, ⟨_, rfl⟩, q⟩) hs
theorem Inv.lst {pins : List (Addr × Obj)} {σ : St} {H : Hp} {s : Shared} {p : Addr} {xs : List V} (I : Inv X pins σ H s) (h : H p = some (.lst xs)) :
    ∃ (its : List Value) (n : Nat), Vals xs its ∧ s.heap.get? p = some { cls := .type "list", data := .seq its.toArray n } ∧ xs.length ≤ sizeLine := by
  obtain ⟨z, its, n, r, e⟩ := I.hok p _ h
  exact ⟨its, n, r, e, z⟩
theorem slice_bounds (lo hi : Option Int) (n : Nat) : (sliceBounds lo hi none n).1 = ((HT.sIx n 0 lo : Nat) : Int) ∧ (sliceBounds lo hi none n).2.1 = ((HT.sIx n n hi : Nat) : Int) ∧ (sliceBounds lo hi none n).2.2 = 1 := by
  refine ⟨?_, ?_, rfl⟩
  · cases lo with
    | none => simp [sliceBounds, HT.sIx]
    | some i =>
      simp only [sliceBounds, HT.sIx, Option.getD_none, show (1 : Int) > 0 by decide, if_true]
      by_cases h : i < 0
      · simp only [h, if_true] <;> omega
      · simp only [h, if_false] <;> omega
  · cases hi with
    | none => simp [sliceBounds, HT.sIx]
    | some i =>
      simp only [sliceBounds, HT.sIx, Option.getD_none, show (1 : Int) > 0 by decide, if_true]
      by_cases h : i < 0
      · simp only [h, if_true] <;> omega
      · simp only [h, if_false] <;> omega
theorem slicePick_cut (its : List Value) (lo hi : Option Int) : slicePick its.toArray lo hi none = ((its.drop (HT.sIx its.length 0 lo)).take (HT.sIx its.length its.length hi - HT.sIx its.length 0 lo)).toArray := by
  obtain ⟨h1, h2, h3⟩ := slice_bounds lo hi its.toArray.size
  unfold slicePick
  rw [h1, h2, h3]
  simp only [sliceRange_one, pick_run, List.size_toArray] <;> rfl
noncomputable def rSlL (K : PySem.W.Frag) : V → Option Int → Option Int → Hp → VK → Prop := fun x lo hi H Q => ∃ a xs, x = .ref a ∧ SqL K H a xs ∧ ∀ p, H p = none → Q (.ref p) (upd H p (.lst (cutV xs lo hi)))
theorem sl_list : SlR X (rSlL X.K) := by
  intro pins s σ H x v vl vu lo hi sl Q I rx hs pl pu h
  obtain ⟨a, xs, rfl, hx, q⟩ := h
  cases rx
  obtain ⟨its, r, ht, hz⟩ := I.list hx
  have hlen := r.length
  refine ⟨"list", _, slot_list_getitem.lookup, ht.isList.typeIs, ?_⟩
  refine wpAny_getItem_list_slice ht.isList hs pl pu .none (by simp) ?_ (by rw [List.size_toArray] <;> omega)
  rw [slicePick_cut, ← hlen]
  refine ⟨.ref s.heap.objs.size, _, I.laid (t' := s.toks) (o := .lst (cutV xs lo hi)) (fun b ob q => Heap.get?_push_of_some _ q) (Nat.le_refl _) ?_, rfl, q _ (I.hok.fresh (Nat.le_refl _))⟩
  exact ⟨Nat.le_trans (cutV_length xs lo hi) hz, _, 0, (r.drop (HT.sIx xs.length 0 lo)).take (HT.sIx xs.length xs.length hi - HT.sIx xs.length 0 lo), Heap.get?_push_size _ rfl⟩

noncomputable def flatV : V → Bool
  | .non => true
  | .bl _ => true
  | .int _ => true
  | .str _ => true
  | _ => false
noncomputable def eqV : V → V → Bool
  | .non, .non => true
  | .bl a, .bl b => a == b
  | .bl a, .int b => (if a then 1 else 0) == b
  | .int a, .bl b => a == (if b then 1 else 0)
  | .int a, .int b => a == b
  | .str a, .str b => a == b
  | _, _ => false
theorem eqAt_V {A : Around} {s : Shared} {y x : V} {u v : Value} (ry : RelV y u) (rx : RelV x v) (fy : flatV y = true) (fx : flatV x = true) : SeqAt.EqAt A s u v (eqV y x) := by
  cases y with
  | non =>
    cases ry
    cases x with
    | non => cases rx; exact SeqAt.EqAt.same _
    | bl b => cases rx; exact SeqAt.EqAt.none_bool b
    | int b => obtain ⟨t, rfl⟩ := rx; exact SeqAt.EqAt.none_int b t
    | str b => obtain ⟨t, rfl⟩ := rx; exact SeqAt.EqAt.none_str b t
    | _ => exact absurd (show false = true from fx) Bool.false_ne_true
  | bl a =>
    cases ry
    cases x with
    | non => cases rx; exact SeqAt.EqAt.bool_none a
    | bl b => cases rx; exact SeqAt.EqAt.bool_bool a b
    | int b => obtain ⟨t, rfl⟩ := rx; exact SeqAt.EqAt.bool_int a b t
    | str b => obtain ⟨t, rfl⟩ := rx; exact SeqAt.EqAt.bool_str a b t
    | _ => exact absurd (show false = true from fx) Bool.false_ne_true
  | int a =>
    obtain ⟨t', rfl⟩ := ry
    cases x with
    | non => cases rx; exact SeqAt.EqAt.int_none a t'
    | bl b => cases rx; exact SeqAt.EqAt.int_bool a t' b
    | int b => obtain ⟨t, rfl⟩ := rx; exact SeqAt.EqAt.int_int a t' b t
    | str b => obtain ⟨t, rfl⟩ := rx; exact SeqAt.EqAt.int_str a t' b t
    | _ => exact absurd (show false = true from fx) Bool.false_ne_true
  | str a =>
    obtain ⟨t', rfl⟩ := ry
    cases x with
    | non => cases rx; exact SeqAt.EqAt.str_none a t'
    | bl b => cases rx; exact SeqAt.EqAt.str_bool a t' b
    | int b => obtain ⟨t, rfl⟩ := rx; exact SeqAt.EqAt.str_int a t' b t
    | str b => obtain ⟨t, rfl⟩ := rx; exact SeqAt.EqAt.str_str a t' b t
    | _ => exact absurd (show false = true from fx) Bool.false_ne_true
  | _ => exact absurd (show false = true from fy) Bool.false_ne_true
noncomputable def eqU (x : V) (u : Value) : Bool := match u with
  | .none => eqV .non x
  | .bool b => eqV (.bl b) x
  | .int i _ => eqV (.int i) x
  | .str z _ => eqV (.str z) x
  | _ => false
theorem eqU_of {x y : V} {u : Value} (r : RelV y u) (f : flatV y = true) : eqU x u = eqV y x := by
  cases y with
  | non => cases r; rfl
  | bl b => cases r; rfl
  | int i => obtain ⟨t, rfl⟩ := r; rfl
  | str z => obtain ⟨t, rfl⟩ := r; rfl
  | _ => exact absurd (show false = true from f) Bool.false_ne_true
theorem any_eqU {x : V} : ∀ {xs : List V} {us : List Value}, Vals xs us → xs.all flatV = true → us.any (eqU x) = xs.any fun y => eqV y x
  | _, _, .nil, _ => rfl
  | y :: xs, u :: us, .cons r t, f => by
    rw [List.all_cons, Bool.and_eq_true] at f
    rw [List.any_cons, List.any_cons, eqU_of r f.1, any_eqU t f.2]
theorem mem_eqAt {A : Around} {s : Shared} {x : V} {v : Value} (rx : RelV x v) (fx : flatV x = true) : ∀ {xs : List V} {us : List Value}, Vals xs us → xs.all flatV = true → ∀ u ∈ us, SeqAt.EqAt A s u v (eqU x u)
  | _, _, .nil, _ => fun u hu => by cases hu
  | y :: xs, u :: us, .cons r t, f => fun u' hu => by
    rw [List.all_cons, Bool.and_eq_true] at f
    rcases List.mem_cons.mp hu with rfl | hu
    · rw [eqU_of r f.1]; exact eqAt_V r rx f.1 fx
    · exact mem_eqAt rx fx t f.2 u' hu
noncomputable def inV (x : V) (xs : List V) : Bool := xs.any fun y => eqV y x
noncomputable def rIn (K : PySem.W.Frag) (neg : Bool) : R2 := fun x y H Q => ∃ p xs, y = .ref p ∧ (SqL K H p xs ∨ SqT K H p xs) ∧ flatV x = true ∧ xs.all flatV = true ∧ Q (.bl (if neg then !inV x xs else inV x xs)) H
theorem op_in_seq : OpR X (compareOp .In) (rIn X.K false) := by
  intro pins s σ H x y v u Q I rx ry h
  obtain ⟨p, xs, rfl, hq, fx, fs, q⟩ := h
  cases ry
  rcases hq with hq | hq
  · obtain ⟨its, r, pl, hz⟩ := I.list hq
    refine SeqAt.in_listAt (eqU x) pl.isList (fun w hw => mem_eqAt rx fx r fs w (by simpa using hw)) ⟨.bl _, H, I, rfl, ?_⟩
    rw [show its.toArray.any (eqU x) = its.any (eqU x) by simp, any_eqU r fs]
    exact q
  · obtain ⟨its, r, pl, hz⟩ := I.tuple hq
    refine SeqAt.in_tupleAt (eqU x) pl (fun w hw => mem_eqAt rx fx r fs w (by simpa using hw)) ⟨.bl _, H, I, rfl, ?_⟩
    rw [show its.toArray.any (eqU x) = its.any (eqU x) by simp, any_eqU r fs]
    exact q
theorem op_notIn_seq : OpR X (compareOp .NotIn) (rIn X.K true) := by
  intro pins s σ H x y v u Q I rx ry h
  obtain ⟨p, xs, rfl, hq, fx, fs, q⟩ := h
  cases ry
  rcases hq with hq | hq
  · obtain ⟨its, r, pl, hz⟩ := I.list hq
    refine SeqAt.notIn_listAt (eqU x) pl.isList (fun w hw => mem_eqAt rx fx r fs w (by simpa using hw)) ⟨.bl _, H, I, rfl, ?_⟩
    rw [show its.toArray.any (eqU x) = its.any (eqU x) by simp, any_eqU r fs]
    exact q
  · obtain ⟨its, r, pl, hz⟩ := I.tuple hq
    refine SeqAt.notIn_tupleAt (eqU x) pl (fun w hw => mem_eqAt rx fx r fs w (by simpa using hw)) ⟨.bl _, H, I, rfl, ?_⟩
    rw [show its.toArray.any (eqU x) = its.any (eqU x) by simp, any_eqU r fs]
    exact q
theorem call_len_seq : CallR X (.builtin "len") (fun xs H Q => ∃ p ys, xs = [.ref p] ∧ (SqL X.K H p ys ∨ SqT X.K H p ys) ∧ Q (.int ys.length) H) := by
  intro pins s σ H xs us Q I r h
  obtain ⟨p, ys, rfl, hq, q⟩ := h
  obtain ⟨u, rfl, rx⟩ := vals1 r
  cases rx
  have hn := line63
  rcases hq with hq | hq
  · obtain ⟨its, r', pl, hz⟩ := I.list hq
    have hlen := r'.length
    exact Calls.call_len_list pl.isList (by simp only [List.size_toArray] <;> omega) ⟨.int ys.length, H, I.tok _, ⟨s.toks + 1, by rw [List.size_toArray, hlen]⟩, q⟩
  · obtain ⟨its, r', pl, hz⟩ := I.tuple hq
    have hlen := r'.length
    exact len_tuple pl (by simp only [List.size_toArray] <;> omega) ⟨.int ys.length, H, I.tok _, ⟨s.toks + 1, by rw [List.size_toArray, hlen]⟩, q⟩
theorem call_len_str : CallR X (.builtin "len") (fun xs H Q => ∃ z, xs = [.str z] ∧ z.length ≤ sizeLine ∧ Q (.int z.length) H) := by
  intro pins s σ H xs us Q I r h
  obtain ⟨z, rfl, hz, q⟩ := h
  obtain ⟨u, rfl, t, rfl⟩ := vals1 r
  have hn := line63
  exact len_str (by omega) ⟨.int z.length, H, I.tok _, ⟨_, rfl⟩, q⟩
theorem CallR.or {f : Value} {r r' : List V → Hp → VK → Prop} (h : CallR X f r) (h' : CallR X f r') : CallR X f (fun xs H Q => r xs H Q ∨ r' xs H Q) := by
  intro pins s σ H xs us Q I rs q
  rcases q with q | q
  · exact h pins s σ H xs us Q I rs q
  · exact h' pins s σ H xs us Q I rs q
theorem call_tuple_of : CallR X (.type "tuple") (fun xs H Q => ∃ p ys, xs = [.ref p] ∧ ((SqL X.K H p ys ∧ ∀ l, H l = none → Q (.ref l) (upd H l (.tup ys))) ∨ (SqT X.K H p ys ∧ Q (.ref p) H))) := by
  intro pins s σ H xs us Q I r h
  obtain ⟨p, ys, rfl, h⟩ := h
  obtain ⟨u, rfl, rx⟩ := vals1 r
  cases rx
  rcases h with ⟨hq, q⟩ | ⟨hq, q⟩
  · obtain ⟨its, r', pl, hz⟩ := I.list hq
    have hlen := r'.length
    refine call_tuple_list pl.isList (fun h' kp => ?_) (by simp only [List.size_toArray] <;> omega)
    have I1 : Inv X pins σ H { s with heap := h' } := I.kept (t' := s.toks) kp
    have I2 : Inv X pins σ (upd H h'.objs.size (.tup ys)) { s with heap := h'.push { cls := .type "tuple", data := .seq its.toArray } } :=
      I1.laid (t' := s.toks) (fun b o e => Heap.get?_push_of_some _ e) (Nat.le_refl _) (show ObjOk X.prog X.w _ _ _ (.tup ys) from ⟨hz, its, r', IsTup.new _ _⟩)
    exact ⟨.ref h'.objs.size, _, I2, rfl, q _ (I1.hok.fresh (Nat.le_refl _))⟩
  · obtain ⟨its, r', pl, hz⟩ := I.tuple hq
    exact call_tuple_same pl ⟨.ref p, H, I, rfl, q⟩

noncomputable def tyV (K : PySem.W.Frag) (T : String) (x : V) (H : Hp) : Prop := match x with
  | .str _ => T = "str"
  | .int _ => T = "int"
  | .ref p => (T = "list" ∧ ∃ xs, SqL K H p xs) ∨ (T = "tuple" ∧ ∃ o, K.lookup p = some o ∧ o.cls = .type "tuple" ∧ o.dict = none) ∨
      (T = "dict" ∧ ((∃ kvs, H p = some (.dK kvs)) ∨ ∃ kvs, H p = some (.dT kvs))) ∨ (T = "set" ∧ ∃ S n, H p = some (.set S n))
  | _ => False
theorem tyV_is {pins : List (Addr × Obj)} {σ : St} {H : Hp} {s : Shared} {T : String} {x : V} {v : Value} (I : Inv X pins σ H s) (r : RelV x v) (ty : tyV X.K T x H) :
    s.TypeIs v T ∧ ∀ a, v = .ref a → ∃ ob, s.heap.get? a = some ob ∧ ob.dict = none := by
  cases x with
  | str z =>
    obtain ⟨t, rfl⟩ := r
    cases (show T = "str" from ty)
    exact ⟨typeIs_str s z t, fun _ e => nomatch e⟩
  | int i =>
    obtain ⟨t, rfl⟩ := r
    cases (show T = "int" from ty)
    exact ⟨typeIs_int s i t, fun _ e => nomatch e⟩
  | ref p =>
    cases r
    rcases ty with ⟨rfl, xs, hq⟩ | ⟨rfl, o, hk, hc, hd⟩ | ⟨rfl, hk⟩ | ⟨rfl, S, n, hk⟩
    · obtain ⟨its, _, pl, _⟩ := I.list hq
      refine ⟨pl.isList.typeIs, fun a e => ?_⟩
      cases e
      obtain ⟨o, n, e, c, hd, _⟩ := pl
      exact ⟨o, e, hd⟩
    · refine ⟨⟨o, I.kIn p o hk, hc⟩, fun a e => ?_⟩
      cases e
      exact ⟨o, I.kIn _ o hk, hd⟩
    · have z : ∃ o, s.heap.get? p = some o ∧ o.ExactDict := by
        rcases hk with ⟨kvs, hk⟩ | ⟨kvs, hk⟩
        · obtain ⟨_, _, _, _, o, _, _, e, ex, _⟩ := I.hok p _ hk
          exact ⟨o, e, ex⟩
        · obtain ⟨_, _, _, _, o, _, _, e, ex, _⟩ := I.hok p _ hk
          exact ⟨o, e, ex⟩
      obtain ⟨o, e, ex⟩ := z
      refine ⟨⟨o, e, ex.1⟩, fun a e2 => ?_⟩
      cases e2
      exact ⟨o, e, ex.2.1⟩
    · obtain ⟨o, _, _, _, e, ex, _⟩ := I.hok p _ hk
      refine ⟨⟨o, e, ex.1⟩, fun a e2 => ?_⟩
      cases e2
      exact ⟨o, e, ex.2.1⟩
  | _ => exact False.elim ty
noncomputable def tBM (K : PySem.W.Frag) (T : String) (r : V → List V → Hp → VK → Prop) (to : TE) (t : TA) : TE := fun σ H Q => to σ H fun x H1 => tyV K T x H1 ∧ t σ H1 fun xs H2 => r x xs H2 Q
variable {o e : Expr} {es : List Expr} {to : TE} {t : TA} {name : Str} {apos cpos : Pos} {T id : String} {r : V → List V → Hp → VK → Prop}
theorem pe_bm (pa : PlainAttrs T) (slot : Slot T name id) (hty : typeOf (.builtin id) = pure (.type "method_descriptor")) (hm : MtR X id r) (ho : PE X o to) (ha : PA X (e :: es) t)
    (hbase : attributeBase o name X.env (eval o X.env) = eval o X.env := by rfl)
    (hfew : ((backTo cpos (starEach (e :: es) X.env)).all (fun x => !x.1) && (backToKw cpos (keywordEach [] X.env)).all (fun x => x.1.isSome)
      && decide ((e :: es).length + ([] : List Keyword).length + (if ([] : List Keyword).isEmpty then 0 else 1) < 30)) = true := by rfl)
    (hline : (apos.endLine == cpos.line) = true := by rfl) (hs : starEach (e :: es) X.env = (false, eval e X.env) :: starEach es X.env := by rfl) (hplain : (backTo cpos (starEach es X.env)).any (·.1) = false := by rfl) :
    PE X (.Call (.Attribute o name apos) (e :: es) [] cpos) (tBM X.K T r to t) := by
  intro pins s σ H Q I h
  refine wpAny_Call_method_late hbase hfew hline rfl (thn (ho pins s σ H _ I h) fun v s1 ⟨x, H1, I1, r1, ty, q1⟩ => ?_)
  obtain ⟨h1, h2⟩ := tyV_is I1 r1 ty
  refine ⟨T, id, pa, slot, hty, h1, h2, ?_⟩
  have hA := ha cpos pins s1 σ H1 _ I1 q1
  rw [hs] at hA ⊢
  refine Calls.callWith_builtin (by show (false || (backTo cpos (starEach es X.env)).any (·.1)) = false; rw [hplain] <;> rfl) (Calls.evalArgs_plain ?_)
  exact thn hA fun us s2 ⟨vs, H2, I2, r2, q2⟩ => hm pins s2 σ H2 x vs v us Q I2 r1 r2 q2
/- xs.append(e), list.index on a module's tuple .. are MtR facts of 06m -/
end
end L2

namespace L2
open PySem PySem.Spec PyProof.Rows

noncomputable def MtM (X : Cx) (id : String) (r : V → List V → Hp → VK → Prop) : Prop :=
  ∀ (pins : List (Addr × Obj)) (s : Shared) (σ : St) (H : Hp) (x : V) (xs : List V) (v : Value) (us : List Value) (Q : VK), Inv X pins σ H s → RelV x v → Vals xs us → r x xs H Q →
    wpAny (model X.prog X.w) X.A (call (.builtin id) (v :: us)) (EP X pins σ Q) X.xe s

theorem Vals.one : ∀ {x : V} {us : List Value}, Vals [x] us → ∃ u, us = [u] ∧ RelV x u
  | _, _, .cons r .nil => ⟨_, rfl, r⟩
theorem Vals.two : ∀ {x y : V} {us : List Value}, Vals [x, y] us → ∃ u v, us = [u, v] ∧ RelV x u ∧ RelV y v
  | _, _, _, .cons r (.cons q .nil) => ⟨_, _, rfl, r, q⟩
theorem Vals.zero : ∀ {us : List Value}, Vals [] us → us = []
  | _, .nil => rfl
theorem Vals.dropLast {xs : List V} {us : List Value} (h : Vals xs us) : Vals xs.dropLast us.dropLast := by
  induction h with
  | nil => exact .nil
  | cons r t ih =>
    cases t with
    | nil => exact .nil
    | cons q t' => exact .cons r ih
theorem Vals.rep {xs : List V} {us : List Value} (h : Vals xs us) : ∀ k : Nat, Vals (List.replicate k xs).flatten (List.replicate k us).flatten
  | 0 => .nil
  | k + 1 => by
    rw [List.replicate_succ, List.replicate_succ, List.flatten_cons, List.flatten_cons]
    exact Vals.append h (Vals.rep h k)
theorem foldl_rep (its : List Value) : ∀ (k : Nat) (acc : List Value),
    List.foldl (fun x1 x2 => x1 ++ x2) acc.toArray (List.replicate k its.toArray) = (acc ++ (List.replicate k its).flatten).toArray
  | 0, acc => by simp
  | k + 1, acc => by
    have e : acc.toArray ++ its.toArray = (acc ++ its).toArray := by simp
    have e2 : (acc ++ its) ++ (List.replicate k its).flatten = acc ++ (List.replicate (k + 1) its).flatten := by
      rw [List.replicate_succ, List.flatten_cons, List.append_assoc]
    rw [← e2, ← foldl_rep its k (acc ++ its), ← e, List.replicate_succ, List.foldl_cons]

section
variable {X : Cx} {pins : List (Addr × Obj)} {σ : St} {H : Hp} {s : Shared} {l b : Addr} {xs ys zs : List V}

theorem Inv.lset {its its' : List Value} {n : Nat} {f : Array Value → Array Value} {t' : Nat} (I : Inv X pins σ H s) (hH : H l = some (.lst xs))
    (e : s.heap.get? l = some { cls := .type "list", data := .seq its.toArray n }) (hf : f its.toArray = its'.toArray) (hv : Vals ys its') (hz : ys.length ≤ sizeLine) :
    Inv X pins σ (upd H l (.lst ys)) { s with heap := s.heap.update l (Obj.mapSeq f), toks := t' } := by
  have q := PySem.IsL.update e f
  rw [hf] at q
  refine I.write (x := l) (e := l) (by rw [hH]; exact trivial) (.inl rfl) (fun b' u hb hu => (Heap.get?_update_other s.heap (Obj.mapSeq f) (Ne.symm hb)).trans hu) ⟨_, q⟩ ?_
  exact ⟨hz, its', _, hv, q⟩
theorem Inv.lnew {its : List Value} {t' : Nat} (I : Inv X pins σ H s) (hv : Vals ys its) (hz : ys.length ≤ sizeLine) :
    Inv X pins σ (upd H s.heap.objs.size (.lst ys)) { s with heap := s.heap.push { cls := .type "list", data := .seq its.toArray }, toks := t' } :=
  I.laid (fun _ _ q => Heap.get?_push_of_some _ q) (Nat.le_refl _) ⟨hz, its, 0, hv, Heap.get?_push_size _ rfl⟩
theorem Inv.fresh (I : Inv X pins σ H s) : H s.heap.objs.size = none := I.hok.fresh (Nat.le_refl _)
theorem Inv.lstM (I : Inv X pins σ H s) (hH : H l = some (.lst xs)) : xs.length ≤ sizeLine ∧ ∃ (its : List Value) (n : Nat), Vals xs its ∧ xs.length = its.length ∧ s.heap.get? l = some { cls := .type "list", data := .seq its.toArray n } := by
  obtain ⟨z, its, n, r, e⟩ := I.hok l _ hH
  exact ⟨z, its, n, r, r.length, e⟩

theorem notLongL {n : Nat} (h : n ≤ sizeLine) : Builtin.List.listTooLong n = false := by
  unfold Builtin.List.listTooLong
  exact decide_eq_false (by omega)
end

section
variable {X : Cx}

noncomputable def rAppend : V → List V → Hp → VK → Prop := fun x vs H Q => ∃ l xs y, x = .ref l ∧ vs = [y] ∧ H l = some (.lst xs) ∧ xs.length < sizeLine ∧ Q .non (upd H l (.lst (xs ++ [y])))
theorem mt_append : MtM X "list.append" rAppend := by
  intro pins s σ H x vs v us Q I rx rv h
  obtain ⟨l, xs, y, rfl, rfl, hH, hz, q⟩ := h
  cases rx
  obtain ⟨u, rfl, ru⟩ := rv.one
  obtain ⟨z, its, n, r, hl, e⟩ := I.lstM hH
  refine call_meets F.slot_list_append ⟨_, e, rfl⟩ F.entry_list_append (F.args_list_append_2 _ _) (PySem.list_append l its.toArray n u (by rw [List.size_toArray]; omega)) ⟨e, ?_⟩
  refine ⟨.non, _, I.lset (its' := its ++ [u]) hH e (by simp) (r.append (.cons ru .nil)) ?_, rfl, q⟩
  rw [List.length_append, List.length_singleton]
  omega

noncomputable def rCat : R2 := fun x y H Q => ∃ l b xs zs, x = .ref l ∧ y = .ref b ∧ H l = some (.lst xs) ∧ H b = some (.lst zs) ∧ xs.length + zs.length ≤ sizeLine ∧ ∀ p, H p = none → Q (.ref p) (upd H p (.lst (xs ++ zs)))
theorem op_cat : OpR X (binaryOp .Add) rCat := by
  intro pins s σ H x y v u Q I rx ry h
  obtain ⟨l, b, xs, zs, rfl, rfl, hH, hB, hz, q⟩ := h
  cases rx
  cases ry
  obtain ⟨z, its, n, r, hl, e⟩ := I.lstM hH
  obtain ⟨z2, its2, n2, r2, hl2, e2⟩ := I.lstM hB
  refine PySem.P.add_list e e2 ?_ (by rw [List.size_toArray, List.size_toArray]; omega)
  have ea : its.toArray ++ its2.toArray = (its ++ its2).toArray := by simp
  rw [ea]
  exact ⟨.ref _, _, I.lnew (t' := s.toks) (r.append r2) (by rw [List.length_append]; omega), rfl, q _ I.fresh⟩
noncomputable def rRep : R2 := fun x y H Q => ∃ l k xs, x = .ref l ∧ y = .int k ∧ H l = some (.lst xs) ∧ -(2 ^ 63) ≤ k ∧ k < 2 ^ 63 ∧ xs.length * k.toNat ≤ sizeLine ∧
  ∀ p, H p = none → Q (.ref p) (upd H p (.lst (List.replicate k.toNat xs).flatten))
theorem len_rep {α : Type} (xs : List α) (k : Nat) : (List.replicate k xs).flatten.length = k * xs.length := by
  induction k with
  | zero => simp
  | succ k ih => rw [List.replicate_succ, List.flatten_cons, List.length_append, ih, Nat.succ_mul, Nat.add_comm]
theorem op_rep : OpR X (binaryOp .Mult) rRep := by
  intro pins s σ H x y v u Q I rx ry h
  obtain ⟨l, k, xs, rfl, rfl, hH, h1, h2, hz, q⟩ := h
  cases rx
  obtain ⟨t, rfl⟩ := ry
  obtain ⟨z, its, n, r, hl, e⟩ := I.lstM hH
  have hlen : its.toArray.size * k.toNat ≤ sizeLine := by rw [List.size_toArray, ← hl]; exact hz
  have hcap : ¬ its.toArray.size * k.toNat > (2 ^ 63 - 1) / 8 := by
    have : (sizeLine : Nat) ≤ (2 ^ 63 - 1) / 8 := by decide
    omega
  have hfit : ¬ (!Builtin.List.listFitsIndex k) = true := by
    rw [fitsIndex_both h1 h2]
    exact Bool.false_ne_true
  have hlong : ¬ Builtin.List.listTooLong (its.toArray.size * k.toNat) = true := by
    rw [notLongL hlen]
    exact Bool.false_ne_true
  have hnew : List.foldl (fun x1 x2 => x1 ++ x2) #[] (List.replicate (if its.toArray.isEmpty = true then 0 else k.toNat) its.toArray) = (List.replicate k.toNat its).flatten.toArray := by
    have f0 : ∀ m : Nat, List.foldl (fun x1 x2 => x1 ++ x2) #[] (List.replicate m its.toArray) = (List.replicate m its).flatten.toArray := fun m => by
      have := foldl_rep its m []
      rw [List.nil_append] at this
      exact this
    rw [f0]
    cases its with
    | nil => simp
    | cons a r' => rw [if_neg (by simp)]
  refine wpAny_binaryOp_repeat_ref (T := "list") (U := "int") (by decide) ⟨_, e, rfl⟩ (fun s' => typeIs_int s' k t) noFill_list_mul F.fills_int_mul F.slot_int_rmul repeat_list F.slot_int_index.lookup
    (call_meets F.slot_int_rmul (typeIs_int s k t) F.entry_int_rmul (F.args_int_rmul_2 _ _) (int___rmul___int_list k t l its.toArray n)
      ⟨e, rfl, ⟨_, e, rfl⟩, call_meets F.slot_list_mul ⟨_, e, rfl⟩ F.entry_list_mul (F.args_list_mul_2 _ _) (AutoListH.list___mul___list_int_3 l its.toArray n k t hfit hcap hlong) ⟨e, ?_⟩⟩)
  rw [hnew]
  exact ⟨.ref _, _, I.lnew (t' := s.toks) (r.rep k.toNat) (by rw [len_rep, Nat.mul_comm]; exact hz), rfl, q _ I.fresh⟩

end

section
variable {prog : Program} {w : World} {A : Around} {E : Value → Shared → Prop} {s : Shared}
end

section
variable {X : Cx}
end
end L2

namespace Att
open PySem PySem.W PySem.Calls PyProof.Rows

theorem ints_of_wellAll {P : Params} {h : Heap} : ∀ (ns : List Int) (vs : List Value), WellAll P h vs (ns.map WData.int) → IntsAre vs ns := by
  intro ns
  induction ns with
  | nil =>
    intro vs w
    rw [List.map_nil] at w
    cases w
    exact .nil
  | cons n ns ih =>
    intro vs w
    rw [List.map_cons] at w
    cases w with
    | cons a b =>
      cases a
      exact .cons _ _ (ih _ b)

theorem script_of {l : OpenLaw} {n : Nat} (hn : l.most = some n) {P : Params} {h : Heap} {args : List WData} {vals : List Value}
    (hpre : l.row.toRowW.claim.pre args = true) (hwl : WellAll P h vals args) :
    ∃ a vs ns, vals = [Value.ref a] ∧ args = [WData.list (ns.map WData.int)] ∧ h.get? a = some { cls := .type "list", data := .seq vs.toArray } ∧ IntsAre vs ns ∧ ns.length ≤ n := by
  have hsh : WShape.hasAll [] args [.list .int] = true := (pre_splitW hpre).1
  have hc : l.pre.holds [] { args := args } = true := (pre_splitW hpre).2
  obtain ⟨d, r, rfl, h1, h2⟩ := hasAllW_cons hsh
  obtain rfl := hasAllW_nil h2
  obtain ⟨xs, rfl, h3⟩ := hasW_list h1
  obtain ⟨ns, rfl⟩ := items_int h3
  have hlen : ns.length ≤ n := by
    unfold OpenLaw.pre at hc
    have h4 : (WTm.not (.lt (.lit (.int (n : Int))) (.len (.arg 0)))).holds [] { args := [.list (ns.map .int)] } = true := by
      have h4 := (holds_andW hc).1
      rw [hn] at h4
      exact h4
    have h5 := condW_of h4 (w_not (w_lt w_lit (w_len_list (w_arg rfl))))
    rw [List.length_map] at h5
    refine Nat.le_of_not_lt fun q => ?_
    have q' : (n : Int) < ((ns.length : Nat) : Int) := by omega
    first
      | (rw [decide_eq_true q'] at h5; exact absurd h5 (by decide))
      | (simp at h5; omega)
  cases hwl with
  | cons w1 w2 =>
    cases w2
    cases w1 with
    | list ho hall => exact ⟨_, _, ns, rfl, rfl, ho, ints_of_wellAll ns _ hall, hlen⟩

theorem post_true (l : OpenLaw) (args : List WData) : l.row.toRowW.claim.post args (.bool true) args = true :=
  postW_of (r := l.row.toRowW) (X := (true == true))
    (show WShape.has [] (.bool true) .bool = true by first | rfl | decide | simp [WShape.has, WShape.arms, WShape.armsAll])
    (show (WTm.eq .res (.lit (.bool true))).value [] { args := args, res := some (.bool true), after := args } = some (.bool (true == true)) from w_eq_bool (w_res rfl) w_lit) rfl

theorem attach_call {l : OpenLaw} {n : Nat} {q : Program} {loose : List Str} {XP : (Str → Option Value) → Heap → Prop} {YP : World → Heap → Prop} {d : DefRec}
    (hn : l.most = some n) (hdf : d.params.defaults = [])
    (call : ∀ (w : World) (s₀ s₁ : Shared) (mg mb : Str → Option Value) (fa : Addr) (o : Obj) (pm cd doc : Value) (a : Addr) (vs : List Value) (ns : List Int),
      Ground q loose [] XP w s₀ mg mb s₁.heap → YP w s₁.heap →
      s₁.heap.get? fa = some o → o.data = .func (docDef d.name d.params d.body d.scope pm cd doc) → s₁.heap.CodeRec cd d.name → mg d.name = some (.ref fa) →
      s₁.heap.get? a = some { cls := .type "list", data := .seq vs.toArray } → IntsAre vs ns → ns.length ≤ n → s₁.gens = #[] →
      codeAny (model l.prog w) callerA (.call (.ref fa) ⟨[.ref a], []⟩) (fun r s' => r = .ok (.ret (.bool true)) ∧ OldK s₁.heap s'.heap ∧ s'.os = s₁.os ∧ AllBare s'.gens) s₁) :
    WalkO q loose XP YP l.row.toRowW d [] (fun f vs => PySem.call f vs) := by
  intro w s₀ s₁ mg mb G Y fa o pm cd doc dV kV ho hd hcd hD hmg hg args vals as hpre hlay hrd hwl hlo
  obtain rfl : dV = .none := Dflts.none hD hdf
  obtain rfl : kV = .none := Dflts.noKw hD
  obtain ⟨a, vs, ns, rfl, rfl, hobj, hints, hlen⟩ := script_of hn hpre hwl
  refine enter_call (codeAny_mono (call w s₀ s₁ mg mb fa o pm cd doc a vs ns G Y ho (fd_plain hd) hcd hmg hobj hints hlen hg) fun r s' hq => ?_)
  obtain ⟨rfl, h2, h3, h4⟩ := hq
  exact ⟨.inl ⟨.bool true, .bool true, [], rfl, fun _ => rfl, .bool true, post_true l _, fun _ => ⟨List.Pairwise.nil, fun _ hm => (nomatch hm)⟩⟩, h2, h3, h4⟩

section
variable {prog : Program} {w : World} {A : Around} {E : Value → Shared → Prop} {s : Shared} {K : Frag}

noncomputable def ledger (h : Heap) (L d : Addr) : List (Addr × Obj) := (List.range h.objs.size).filterMap fun a => if a = L ∨ a = d then none else (h.get? a).map fun o => (a, o)
end
end Att

namespace L2
open PySem PySem.Spec PyProof.Rows

theorem vals_ints : ∀ {vs : List Value} {ns : List Int}, IntsAre vs ns → Vals (ns.map V.int) vs
  | _, _, .nil => .nil
  | _, _, .cons n t h => .cons ⟨t, rfl⟩ (vals_ints h)

noncomputable def Only (H : Hp) : Prop := ∀ b, H b = none ∨ ∃ o xs, H b = some (.frz o (.lst xs))

theorem law_call {P : Program} {w : World} {K : PySem.W.Frag} {mg mb : Str → Option Value} {CX : CXT} {k : Nat} {fa a : Addr} {fd : FuncData} {x : Str} {sp : Sp} {s₁ : Shared} {vs : List Value} {ns : List Int}
    (KX : K.In s₁.heap) (hns : s₁.heap.Ns mainGlobals mg) (hb : s₁.heap.Ns builtinsNs mb) (hbb : ∀ x : Str, x ≠ "__name__" → mb x = bootBuiltins x) (hlim : s₁.heap.NoLimit) (hg : s₁.gens = #[])
    (ha : s₁.heap.get? a = some { cls := .type "list", data := .seq vs.toArray }) (hi : IntsAre vs ns) (hl : ns.length ≤ sizeLine) (hr : Room k callerA)
    (F : ∀ base : Heap, K.In base → base.Ns mainGlobals mg → FnOk P w K mg base CX k fa fd [x] sp) (hbind : ∀ (s : Shared) (u : Value), BindsTo s fd ⟨[u], []⟩ [(x, u)])
    (hsp : ∀ H : Hp, Only H → SqL K H a (ns.map V.int) → sp [.ref a] H (fun v _ => v = .bl true) fun _ _ _ => False)
    (hCX : ∀ v H e s', CX v [] H s₁ (fun _ _ _ => False) e s' → False) :
    codeAny (model P w) callerA (.call (.ref fa) ⟨[.ref a], []⟩) (fun r s' => r = .ok (.ret (.bool true)) ∧ OldK s₁.heap s'.heap ∧ s'.os = s₁.os ∧ AllBare s'.gens) s₁ := by
  have rv := vals_ints hi
  have lenV := hi.length
  -- from an abstract heap in which nothing but the script may be tracked
  have core : ∀ H : Hp, Only H → SqL K H a (ns.map V.int) → HOk P w H s₁.heap → (∀ b, H b ≠ none → b = a) → (H a ≠ none → K.lookup a = none) →
      codeAny (model P w) callerA (.call (.ref fa) ⟨[.ref a], []⟩) (fun r s' => r = .ok (.ret (.bool true)) ∧ OldK s₁.heap s'.heap ∧ s'.os = s₁.os ∧ AllBare s'.gens) s₁ := by
    intro H hO hS hok hA hK
    have base_of : ∀ {b : Addr} {o : Obj}, s₁.heap.get? b = some o → H b = none → (hidT s₁.heap H).get? b = some o := fun e n => hidT_get e n
    have noA : ∀ {b : Addr} {o : Obj} {es : Array DictEntry} {ep : Nat}, s₁.heap.get? b = some o → o.data = .dict es ep → H b = none := fun {b o es ep} e d => by
      cases q : H b with
      | none => rfl
      | some u =>
        have e' : b = a := hA b (by rw [q]; simp)
        subst e'
        rw [ha] at e; cases e
        have d' : Data.seq vs.toArray _ = Data.dict es ep := d
        cases d'
    have nsK : ∀ {b : Addr} {m : Str → Option Value}, s₁.heap.Ns b m → (hidT s₁.heap H).Ns b m := fun {b m} ⟨o, es, ep, e, d, r⟩ => ⟨o, es, ep, base_of e (noA e d), d, r⟩
    have hKb : K.In (hidT s₁.heap H) := fun b o e => base_of (KX b o e) (by
      cases q : H b with
      | none => rfl
      | some u =>
        have e' : b = a := hA b (by rw [q]; simp)
        subst e'
        rw [hK (by rw [q]; simp)] at e; cases e)
    have hM : Mod K mg (hidT s₁.heap H) := ⟨hKb, nsK hns, ⟨mb, nsK hb, hbb⟩, let ⟨mc, h1, h2⟩ := hlim; ⟨mc, nsK h1, h2⟩⟩
    have e0 : Env0 P w K mg (hidT s₁.heap H) callerA [] s₁ H := ⟨rfl, hM, fun b o e => of_hidT e, Nat.le_of_eq (hidT_size _ _), trivial, fun b hb => absurd (show b ∈ ([] : List Addr) from hb) (by simp), hok, .of_eq hg⟩
    refine codeAny_mono ((F _ hKb (nsK hns)).run callerA [] s₁ H ⟨[.ref a], []⟩ [.ref a] [.ref a] _ _ hr e0 (hbind s₁ (.ref a)) (.cons rfl .nil) (hsp H hO hS)) fun r s' h => ?_
    cases r with
    | error e => exact (hCX _ H e s' h).elim
    | ok fl =>
      cases fl with
      | next => exact False.elim h
      | brk => exact False.elim h
      | cont => exact False.elim h
      | ret u =>
        obtain ⟨v, H', os, bare, un, hok', r', q⟩ := h
        have q' : v = .bl true := q
        subst q'
        obtain rfl : u = Value.bool true := r'
        refine ⟨rfl, OldK.of_keep fun b o e => ?_, os, bare⟩
        cases q : H b with
        | none => exact un.keep b o e q (by intro z; exact absurd (show b ∈ ([] : List Addr) from z) (by simp)) (by simp)
        | some u =>
          rcases hO b with z | ⟨ob, xs, z⟩
          · rw [q] at z; cases z
          · have z2 := un.frzs b ob _ z
            obtain ⟨e1, _⟩ := hok b _ z
            obtain ⟨e2, _⟩ := hok' b _ z2
            rw [e] at e1; cases e1
            exact e2
  cases hk : K.lookup a with
  | some o =>
    -- the script is one of the module's own objects
    have e := KX a o hk
    rw [ha] at e
    cases e
    refine core (fun _ => none) (fun _ => .inl rfl) (.inr ⟨_, vs.toArray, _, hk, rfl, rfl, rfl, by rw [List.size_toArray, lenV]; exact hl, by simpa using rv⟩) (fun b u z => by have z' : (none : Option HO) = some u := z; cases z') (fun b z => absurd rfl z) fun z => absurd rfl z
  | none =>
    refine core (fun b => if b = a then some (.frz { cls := .type "list", data := .seq vs.toArray } (.lst (ns.map V.int))) else none) (fun b => ?_) (.inl (.inr ⟨{ cls := .type "list", data := .seq vs.toArray }, if_pos rfl⟩)) (fun b u z => ?_) (fun b z => ?_) fun _ => hk
    · by_cases hb : b = a
      · exact .inr ⟨_, _, if_pos hb⟩
      · exact .inl (if_neg hb)
    · by_cases hb : b = a
      · have z' := (if_pos hb).symm.trans z
        cases z'
        subst hb
        exact ⟨ha, by rw [List.length_map]; exact hl, vs, _, rv, ha⟩
      · have z' := (if_neg hb).symm.trans z
        cases z'
    · by_cases hb : b = a
      · exact hb
      · exact absurd (if_neg hb) z
end L2

namespace L2
open PySem PySem.Spec PyProof.Rows

noncomputable abbrev KOf {K : PySem.W.Frag} {h : Heap} (_ : K.In h) : PySem.W.Frag := K

theorem walk_of {l : PySem.W.OpenLaw} {n k : Nat} {q : Program} {loose : List Str} {XP : (Str → Option Value) → Heap → Prop} {YP : World → Heap → Prop} {d : DefRec} {K : Params → PySem.W.Frag} {CX : World → CXT} {sp : World → Sp} {x : Str}
    (hn : l.most = some n) (hn2 : n ≤ sizeLine) (hdf : d.params.defaults = []) (hr : Room k callerA)
    (hY : ∀ (w : World) (h : Heap), YP w h → (K w.params).In h)
    (F : ∀ (w : World) (mg : Str → Option Value) (fa : Addr) (h : Heap), (K w.params).In h → h.Ns mainGlobals mg → mg d.name = some (.ref fa) →
      ∃ fd : FuncData, (∀ (s : Shared) (u : Value), BindsTo s fd ⟨[u], []⟩ [(x, u)]) ∧
        ∀ base : Heap, (K w.params).In base → base.Ns mainGlobals mg → FnOk l.prog w (K w.params) mg base (CX w) k fa fd [x] (sp w))
    (hsp : ∀ (w : World) (H : Hp) (a : Addr) (ns : List Int), ns.length ≤ n → Only H → SqL (K w.params) H a (ns.map V.int) → sp w [.ref a] H (fun v _ => v = .bl true) fun _ _ _ => False)
    (hCX : ∀ (w : World) (v : Option Value) (H : Hp) (s : Shared) (e : Value) (s' : Shared), CX w v [] H s (fun _ _ _ => False) e s' → False) :
    PySem.W.WalkO q loose XP YP l.row.toRowW d [] (fun f vs => PySem.call f vs) := by
  refine Att.attach_call hn hdf fun w s₀ s₁ mg mb fa o pm cd doc a vs ns G Y ho hd hcd hmg hobj hints hlen hg => ?_
  have KX := hY w _ Y
  obtain ⟨fd, hb, hF⟩ := F w mg fa _ KX G.T.g hmg
  exact law_call KX G.T.g G.T.b G.T.builtins G.T.nolimit hg hobj hints (Nat.le_trans hlen hn2) hr hF hb (fun H hO hS => hsp w H a ns hlen hO hS) fun v H e s' => hCX w v H s₁ e s'
end L2

/- THE LAST THEOREM (shape; LID, My.* are yours):
   My.Adr: a structure of the addresses that your layer names (classes, functions); My.Txt K t: a structure (Prop) of the equations over K;
   My.txt_mk : {K} {implicit addresses ..} (e1 : nsIn K mainGlobals "law" = some (some (.ref f))) (e2 : K.lookup f = some ⟨oc, od, .func (fnOf "law" "law" params body scope dV kV doc pm an cdv ct), sl⟩) (e3 : codeIn K cdv "law" = true) .. : ∃ t, My.Txt K t

theorem PySem.Challenge.cw_LID_holds : PySem.Challenge.rw_LID.Holds := by
  w_on; o_law
  o_head (PySem.W.kHook Mine.myK [2, 3, 23, 24, 25, 36, 37, 48, 49, 64, 65, 67, 68, 83, 84, 86, 87, 102, 103, 105, 106, 121, 122, 124, 125, 140, 141, 143, 144, 159, 160, 162, 163, 178, 179, 181, 182, 197, 198, 200, 201, 216, 217, 219, 220, 235, 236, 238, 239, 254, 255, 257, 258, 264, 265, 269, 270, 274, 275, 281, 282, 288, 289, 295, 296, 302, 303, 309, 310, 316, 317, 323, 324, 330, 331, 335, 336, 340, 341, 345, 346, 352, 353, 359, 360, 366, 367, 371, 372, 378, 379, 385, 386, 392, 393, 399, 400, 406, 407, 413, 414, 420, 421] (fun _ => by kernel_rfl)); (case hw => w_witness2)
  k_fill
  refine L2.walk_of (l := PySem.Challenge.rw_LID) (n := 63) (k := 40) (x := "script") (CX := fun w => ..) (sp := fun _ => My.sp_law) rfl (by decide) rfl ⟨rfl, by decide, by decide⟩ (fun w h Y => PySem.W.kIn_of Y) ?F ?S ?C
  case F =>
    intro w mg fa h KX G hmg
    have T : ∃ t, My.Txt (L2.KOf KX) t := by
      dsimp only [L2.KOf]                          -- K must stand as «<heap const> w.params» for k_is
      refine' My.txt_mk ?e1 ?e2 ?e3 ..
      (case e1 => PySem.W.k_is)                    -- in the order: a name -> its address -> its object -> its parts
      (case e2 => PySem.W.k_is)
      ..
    obtain ⟨t, T⟩ := T
    have e0 := hmg.symm.trans (PySem.W.mg_of KX G T.law)
    cases e0                                       -- fa is the law's own address
    exact ⟨_, fun s u => .of_eq rfl, fun base kb nb => My.law_fn T kb nb⟩     -- if «.of_eq rfl» comes too early: refine' ⟨_, ?b, fun base kb nb => My.law_fn T kb nb⟩; exact fun s u => .of_eq rfl
  case S => exact fun w H a ns hl hO hS => ..
  case C => exact ..
(the tactic k_is has no namespace: write k_is) -/

namespace L2
open PySem PySem.Spec PyProof.Rows

noncomputable def defArgs (s : Stmt) : Arguments := match s with
  | .FunctionDef _ a _ _ _ _ _ _ _ _ => a
  | _ => { posonlyargs := [], args := [], vararg := none, kwonlyargs := [], kw_defaults := [], kwarg := none, defaults := [] }
noncomputable def defBody (s : Stmt) : List Stmt := match s with
  | .FunctionDef _ _ b _ _ _ _ _ _ _ => b
  | _ => []
noncomputable def defScope (s : Stmt) : Scope := match s with
  | .FunctionDef _ _ _ _ _ _ sc _ _ _ => sc
  | _ => { kind := .function, names := [], isGenerator := false, isCoroutine := false }

noncomputable abbrev CX0 : CXT := fun _ _ _ _ _ _ _ => False
noncomputable abbrev E0 : XK := fun _ _ _ => False
theorem pass0 {X : Cx} : Passes CX0 X E0 := fun _ _ _ _ _ _ _ h => h.elim

structure Fun (K : PySem.W.Frag) (x qual : Str) (st : Stmt) (f : Addr) (fd : FuncData) : Prop where
  ex : ∃ (oc : Value) (od : Option Addr) (kV doc pm : Value) (an : Option Addr) (cdv ct : Value) (osl : Array (Option Value)),
    fd = PySem.W.fnOf x qual (defArgs st) (defBody st) (defScope st) .none kV doc pm an cdv ct ∧ K.lookup f = some ⟨oc, od, .func fd, osl⟩ ∧ PySem.W.codeIn K cdv qual = true
  kp : PySem.W.keepIn K (.ref f) = true
section
variable {P : Program} {w : World} {K : PySem.W.Frag} {mg : Str → Option Value} {base : Heap}
theorem Fun.ok {x qual : Str} {st : Stmt} {f : Addr} {fd : FuncData} {N ps : List Str} {k : Nat} {sp : Sp} (F : Fun K x qual st f fd) (S : FnScope N ps (defScope st)) (len : ∀ vs H Q E, sp vs H Q E → vs.length = ps.length)
    (hbody : ∀ (cdv : Value) (A : Around) (outer : List Env) (s : Shared) (H : Hp) (vs : List V) (Q : VK) (E : XK), Room k (A.deeper (envOfC qual (defScope st) s.heap.objs.size f cdv)) → sp vs H Q E →
      ∃ t, PSs (cxOf CX0 P w K mg base N qual (defScope st) f cdv A outer s H E).nox (defBody st) t ∧ t { nx := fun _ H' => Q .non H', rt := Q } (start N vs) H) : FnOk P w K mg base CX0 (k + 1) f fd ps sp := by
  obtain ⟨oc, od, kV, doc, pm, an, cdv, ct, osl, rfl, lk, hcd⟩ := F.ex
  refine fn_of lk hcd S len fun A outer s H vs Q E hr hsp => ?_
  obtain ⟨t, h, q⟩ := hbody cdv A outer s H vs Q E hr hsp
  exact ⟨t, h.nox, q⟩
theorem Fun.binds {x qual : Str} {st : Stmt} {f : Addr} {fd : FuncData} {ps : List Str} (F : Fun K x qual st f fd)
    (h : ∀ (kV doc pm : Value) (an : Option Addr) (cdv ct : Value) (us : List Value), us.length = ps.length → bindArgs (PySem.W.fnOf x qual (defArgs st) (defBody st) (defScope st) .none kV doc pm an cdv ct) ⟨us, []⟩ = pure (ps.zip us)) : Binds K fd ps [] := by
  obtain ⟨oc, od, kV, doc, pm, an, cdv, ct, osl, rfl, lk, hcd⟩ := F.ex
  exact .all (h kV doc pm an cdv ct)
theorem fun_mk {x qual : Str} {st : Stmt} {f : Addr} {oc : Value} {od an : Option Addr} {osl : Array (Option Value)} {kV doc pm cdv ct : Value} (l : K.lookup f = some ⟨oc, od, .func (PySem.W.fnOf x qual (defArgs st) (defBody st) (defScope st) .none kV doc pm an cdv ct), osl⟩)
    (c : PySem.W.codeIn K cdv qual = true) (k : PySem.W.keepIn K (.ref f) = true) : Fun K x qual st f (PySem.W.fnOf x qual (defArgs st) (defBody st) (defScope st) .none kV doc pm an cdv ct) := ⟨⟨oc, od, kV, doc, pm, an, cdv, ct, osl, rfl, l, c⟩, k⟩
end
section
variable {X : Cx}
theorem pv (i : Nat) {x : Str} {pos : Pos} (hN : X.N[i]? = some x := by rfl) (hv : Vis X.env.scope x := by first | exact Or.inl rfl | exact Or.inr (Or.inl rfl) | exact Or.inr (Or.inr rfl)) (hd : (x == ("__debug__" : Str)) = false := by decide)
    (hcd : (x == ("__classdict__" : Str)) = false := by decide) : PE X (.Name x pos) (tVar i) := pe_var hN hv hd hcd
end

theorem iteF {A B : Prop} (h : B) : if false = true then A else B := by
  rw [if_neg Bool.false_ne_true]
  exact h
theorem iteT {A B : Prop} (h : A) : if true = true then A else B := by
  rw [if_pos rfl]
  exact h
noncomputable def Same (H H' : Hp) : Prop := ∀ b o, H b = some o → H' b = some o
theorem Same.refl (H : Hp) : Same H H := fun _ _ h => h
theorem Same.trans {H H1 H2 : Hp} (a : Same H H1) (b : Same H1 H2) : Same H H2 := fun c o h => b c o (a c o h)
theorem Same.free {H H' : Hp} (e : Same H H') {l : Addr} (h : H' l = Option.none) : H l = Option.none := by
  cases q : H l with
  | none => rfl
  | some o =>
    rw [e l o q] at h
    cases h
theorem Same.seq {K : PySem.W.Frag} {H H' : Hp} {a : Addr} {xs : List V} (e : Same H H') (h : SqL K H a xs) : SqL K H' a xs := by
  rcases h with (h | ⟨o, h⟩) | h
  · exact .inl (.inl (e _ _ h))
  · exact .inl (.inr ⟨o, e _ _ h⟩)
  · exact .inr h

end L2


namespace L2
open PySem PySem.Spec PyProof.Rows

section
variable {κ : Type} [DecidableEq κ]
noncomputable def valV (kvs : List (κ × V)) (k : κ) : Option V := (kvs.find? fun kv => decide (kv.1 = k)).map (·.2)
noncomputable def putK (kvs : List (κ × V)) (k : κ) (v : V) : List (κ × V) :=
  if (kvs.any fun kv => decide (kv.1 = k)) = true then kvs.map (fun kv => if kv.1 = k then (kv.1, v) else kv) else kvs ++ [(k, v)]
noncomputable def dropK (kvs : List (κ × V)) (k : κ) : List (κ × V) := kvs.filter fun kv => decide (kv.1 ≠ k)

theorem valV_pos {p : κ × V} {r : List (κ × V)} {k : κ} (e : p.1 = k) : valV (p :: r) k = some p.2 := by simp [valV, List.find?_cons, e]
theorem valV_neg {p : κ × V} {r : List (κ × V)} {k : κ} (e : ¬ p.1 = k) : valV (p :: r) k = valV r k := by simp [valV, List.find?_cons, e]
theorem valV_any (k : κ) : ∀ kvs : List (κ × V), (kvs.any fun kv => decide (kv.1 = k)) = (valV kvs k).isSome
  | [] => rfl
  | p :: r => by
    rw [List.any_cons]
    by_cases e : p.1 = k
    · simp only [valV_pos e, decide_eq_true e, Bool.true_or, Option.isSome_some]
    · rw [valV_neg e, decide_eq_false e, Bool.false_or]; exact valV_any k r
theorem RelO.isSome_eq {o : Option V} {u : Option Value} (r : RelO o u) : o.isSome = u.isSome := by
  cases o with
  | none => cases u with
    | none => rfl
    | some _ => exact (show False from r).elim
  | some _ => cases u with
    | none => exact (show False from r).elim
    | some _ => rfl
theorem RelO.getD {o : Option V} {u : Option Value} {d : V} {d' : Value} (r : RelO o u) (rd : RelV d d') : RelV (o.getD d) (u.getD d') := by
  cases o with
  | none => cases u with
    | none => exact rd
    | some _ => exact (show False from r).elim
  | some _ => cases u with
    | none => exact (show False from r).elim
    | some _ => exact r

theorem KV.val {kvs : List (κ × V)} {vs : List (κ × Value)} (r : KV kvs vs) (k : κ) : RelO (valV kvs k) (valueAt vs k) := by
  unfold KV at r
  induction r with
  | nil => exact True.intro
  | @cons p q ps qs h t ih =>
    obtain ⟨h1, h2⟩ := h
    by_cases e : p.1 = k
    · have e' : q.1 = k := h1.symm.trans e
      have b : valueAt (q :: qs) k = some q.2 := by simp [valueAt, List.find?_cons, e']
      rw [valV_pos e, b]; exact h2
    · have e' : ¬ q.1 = k := fun z => e (h1.trans z)
      have b : valueAt (q :: qs) k = valueAt qs k := by simp [valueAt, List.find?_cons, e']
      rw [valV_neg e, b]; exact ih
theorem KV.any {kvs : List (κ × V)} {vs : List (κ × Value)} (r : KV kvs vs) (k : κ) : (kvs.any fun kv => decide (kv.1 = k)) = vs.any fun kv => decide (kv.1 = k) := by
  unfold KV at r
  induction r with
  | nil => rfl
  | cons h t ih => rw [List.any_cons, List.any_cons, ih, h.1]
theorem KV.repl {kvs : List (κ × V)} {vs : List (κ × Value)} (r : KV kvs vs) (k : κ) {y : V} {u : Value} (ry : RelV y u) :
    KV (kvs.map fun kv => if kv.1 = k then (kv.1, y) else kv) (vs.map fun kv => if kv.1 = k then (kv.1, u) else kv) := by
  unfold KV at r ⊢
  induction r with
  | nil => exact .nil
  | @cons p q ps qs h t ih =>
    rw [List.map_cons, List.map_cons]
    refine .cons ?_ ih
    obtain ⟨h1, h2⟩ := h
    by_cases e : p.1 = k
    · rw [if_pos e, if_pos (h1.symm.trans e)]; exact ⟨h1, ry⟩
    · rw [if_neg e, if_neg (fun z => e (h1.trans z))]; exact ⟨h1, h2⟩
theorem KV.put {kvs : List (κ × V)} {vs : List (κ × Value)} (r : KV kvs vs) (k : κ) {y : V} {u : Value} (ry : RelV y u) : KV (putK kvs k y) (stored vs k u) := by
  unfold putK stored
  rw [r.any k]
  by_cases e : (vs.any fun kv => decide (kv.1 = k)) = true
  · rw [if_pos e, if_pos e]; exact r.repl k ry
  · rw [if_neg e, if_neg e]; exact Paired.snoc r ⟨rfl, ry⟩
theorem KV.drop {kvs : List (κ × V)} {vs : List (κ × Value)} (r : KV kvs vs) (k : κ) : KV (dropK kvs k) (without vs k) := by
  unfold KV at r ⊢
  unfold dropK without
  induction r with
  | nil => exact .nil
  | @cons p q ps qs h t ih =>
    obtain ⟨h1, h2⟩ := h
    rw [List.filter_cons, List.filter_cons]
    by_cases e : p.1 = k
    · have a : ¬ decide (p.1 ≠ k) = true := by simp [e]
      have b : ¬ decide (q.1 ≠ k) = true := by simp [h1.symm.trans e]
      rw [if_neg a, if_neg b]; exact ih
    · have e' : ¬ q.1 = k := fun z => e (h1.trans z)
      have a : decide (p.1 ≠ k) = true := by simp [e]
      have b : decide (q.1 ≠ k) = true := by simp [e']
      rw [if_pos a, if_pos b]; exact .cons ⟨h1, h2⟩ ih
theorem KV.keys {kvs : List (κ × V)} {vs : List (κ × Value)} (r : KV kvs vs) : kvs.map (·.1) = vs.map (·.1) := by
  unfold KV at r
  induction r with
  | nil => rfl
  | cons h t ih => rw [List.map_cons, List.map_cons, ih, h.1]
theorem KV.length {kvs : List (κ × V)} {vs : List (κ × Value)} (r : KV kvs vs) : kvs.length = vs.length := Paired.length r
end


noncomputable abbrev KT (H : Hp) : List (List Key × V) → List (List Key × Addr × Value) → Prop := Paired fun p q => p.1 = q.1 ∧ H q.2.1 = some (.tup (p.1.map kV)) ∧ RelV p.2 q.2.2
theorem KT.val {H : Hp} {kvs : List (List Key × V)} {xs : List (List Key × Addr × Value)} (r : KT H kvs xs) (k : List Key) : RelO (valV kvs k) ((atKey xs k).map (·.2)) := by
  induction r with
  | nil => exact True.intro
  | @cons p q ps qs h t ih =>
    obtain ⟨h1, _, h2⟩ := h
    by_cases e : p.1 = k
    · have e' : q.1 = k := h1.symm.trans e
      have b : atKey (q :: qs) k = some q.2 := by simp [atKey, List.find?_cons, e']
      rw [valV_pos e, b]; exact h2
    · have e' : ¬ q.1 = k := fun z => e (h1.trans z)
      have b : atKey (q :: qs) k = atKey qs k := by simp [atKey, List.find?_cons, e']
      rw [valV_neg e, b]; exact ih
theorem KT.repl {H : Hp} {kvs : List (List Key × V)} {xs : List (List Key × Addr × Value)} (r : KT H kvs xs) (k : List Key) {y : V} {u : Value} (ry : RelV y u) :
    KT H (kvs.map fun kv => if kv.1 = k then (kv.1, y) else kv) (xs.map (putAt k u)) := by
  induction r with
  | nil => exact .nil
  | @cons p q ps qs h t ih =>
    rw [List.map_cons, List.map_cons]
    refine .cons ?_ ih
    obtain ⟨h1, h2, h3⟩ := h
    unfold putAt
    by_cases e : p.1 = k
    · rw [if_pos e, if_pos (h1.symm.trans e)]; exact ⟨h1, h2, ry⟩
    · rw [if_neg e, if_neg (fun z => e (h1.trans z))]; exact ⟨h1, h2, h3⟩
theorem KT.put {H : Hp} {kvs : List (List Key × V)} {xs : List (List Key × Addr × Value)} (r : KT H kvs xs) (k : List Key) {b : Addr} {y : V} {u : Value} (hb : H b = some (.tup (k.map kV))) (ry : RelV y u) :
    KT H (putK kvs k y) (storedH xs k b u) := by
  have e : (kvs.any fun kv => decide (kv.1 = k)) = (atKey xs k).isSome := by
    rw [valV_any, (r.val k).isSome_eq, Option.isSome_map]
  unfold putK storedH
  rw [e]
  by_cases q : (atKey xs k).isSome = true
  · rw [if_pos q, if_pos q]; exact r.repl k ry
  · rw [if_neg q, if_neg q]; exact Paired.snoc r ⟨rfl, hb, ry⟩
theorem KT.keeps {H H' : Hp} {kvs : List (List Key × V)} {xs : List (List Key × Addr × Value)} (r : KT H kvs xs) (ht : ∀ b ys, H b = some (.tup ys) → H' b = some (.tup ys)) : KT H' kvs xs :=
  Paired.mapP r fun _ _ z => ⟨z.1, ht _ _ z.2.1, z.2.2⟩

section
variable {P : Program} {w : World} {H : Hp} {h : Heap} {a : Addr}
end

noncomputable def DGet (H : Hp) (a : Addr) (y : V) (r : Option V) : Prop :=
  (∃ kvs k, Rd H a (.dK kvs) ∧ y = kV k ∧ r = valV kvs k) ∨ ∃ kvs k b, Rd H a (.dT kvs) ∧ y = .ref b ∧ H b = some (.tup (k.map kV)) ∧ r = valV kvs k
noncomputable def DPut (H : Hp) (a : Addr) (y v : V) (H' : Hp) : Prop :=
  (∃ kvs k, H a = some (.dK kvs) ∧ y = kV k ∧ kvs.length < sizeLine ∧ H' = upd H a (.dK (putK kvs k v))) ∨
  ∃ kvs k b, H a = some (.dT kvs) ∧ y = .ref b ∧ H b = some (.tup (k.map kV)) ∧ kvs.length < sizeLine ∧ H' = upd H a (.dT (putK kvs k v))
theorem DGet.k {H : Hp} {a : Addr} {kvs : List (Key × V)} {k : Key} (e : H a = some (.dK kvs)) : DGet H a (kV k) (valV kvs k) := .inl ⟨kvs, k, .inl e, rfl, rfl⟩
theorem DGet.t {H : Hp} {a b : Addr} {kvs : List (List Key × V)} {k : List Key} (e : H a = some (.dT kvs)) (eb : H b = some (.tup (k.map kV))) : DGet H a (.ref b) (valV kvs k) := .inr ⟨kvs, k, b, .inl e, rfl, eb, rfl⟩
theorem DPut.k {H : Hp} {a : Addr} {kvs : List (Key × V)} {k : Key} {v : V} (e : H a = some (.dK kvs)) (hl : kvs.length < sizeLine) : DPut H a (kV k) v (upd H a (.dK (putK kvs k v))) := .inl ⟨kvs, k, e, rfl, hl, rfl⟩
theorem DPut.t {H : Hp} {a b : Addr} {kvs : List (List Key × V)} {k : List Key} {v : V} (e : H a = some (.dT kvs)) (eb : H b = some (.tup (k.map kV))) (hl : kvs.length < sizeLine) :
    DPut H a (.ref b) v (upd H a (.dT (putK kvs k v))) := .inr ⟨kvs, k, b, e, rfl, eb, hl, rfl⟩


section
variable {X : Cx} {pins : List (Addr × Obj)} {σ : St} {H : Hp} {s : Shared} {a : Addr} {y v : V} {u r : Value} {o : Option V} {A : Around} {E : Value → Shared → Prop}

theorem Inv.big (I : Inv X pins σ H s) : sysModules < s.heap.objs.size := by
  have h : mainGlobals < s.heap.objs.size := (I.mod.glob.keeps I.bk).lt
  exact Nat.lt_trans (by decide) h

end

section
variable {X : Cx} {pins : List (Addr × Obj)} {σ : St} {H : Hp} {s : Shared} {a : Addr} {kvs : List (Key × V)} {k : Key} {u : Value} {A : Around} {E : Value → Shared → Prop}
end


section
variable {X : Cx} {o i e value : Expr} {pos pos' tpos : Pos} {td ty tv : TE}
end


theorem dk_empty {P : Program} {w : World} {H : Hp} (h : Heap) (hb : sysModules < h.objs.size) : ObjOk P w H (h.push { cls := .type "dict", data := .dict #[] }) h.objs.size (.dK []) :=
  ⟨Nat.zero_le _, beq_eq_false_iff_ne.mpr (Ne.symm (Nat.ne_of_lt hb)), [], .nil, Heap.DictOf.new h⟩
noncomputable def tDNewK : TE := fun _ H Q => ∀ p, H p = none → Q (.ref p) (upd H p (.dK []))
section
variable {X : Cx} {pos : Pos}
theorem pe_dnewK : PE X (.Dict [] [] pos) tDNewK := fun pins s σ H Q I h =>
  wpAny_Dict_empty ⟨.ref s.heap.objs.size, _, I.laid (a := s.heap.objs.size) (o := .dK []) (t' := s.toks) (fun _ _ q => Heap.get?_push_of_some _ q) (Nat.le_refl _) (dk_empty s.heap I.big), rfl, h _ (I.hok.fresh (Nat.le_refl _))⟩
end

structure M1 (X : Cx) (o : Expr) (m : Str) (apos : Pos) (e : Expr) (cpos : Pos) : Prop where
  base : attributeBase o m X.env (eval o X.env) = eval o X.env
  few : ((backTo cpos (starEach [e] X.env)).all (fun x => !x.1) && (backToKw cpos (keywordEach [] X.env)).all (fun x => x.1.isSome)
    && decide (([e] : List Expr).length + ([] : List Keyword).length + (if ([] : List Keyword).isEmpty then 0 else 1) < 30)) = true
  line : (apos.endLine == cpos.line) = true
  trees : backTo cpos (starEach [e] X.env) = [(false, eval e X.env)]
structure M2 (X : Cx) (o : Expr) (m : Str) (apos : Pos) (e f : Expr) (cpos : Pos) : Prop where
  base : attributeBase o m X.env (eval o X.env) = eval o X.env
  few : ((backTo cpos (starEach [e, f] X.env)).all (fun x => !x.1) && (backToKw cpos (keywordEach [] X.env)).all (fun x => x.1.isSome)
    && decide (([e, f] : List Expr).length + ([] : List Keyword).length + (if ([] : List Keyword).isEmpty then 0 else 1) < 30)) = true
  line : (apos.endLine == cpos.line) = true
  trees : backTo cpos (starEach [e, f] X.env) = [(false, eval e X.env), (false, eval f X.env)]

section
variable {X : Cx} {pins : List (Addr × Obj)} {σ : St} {H : Hp} {s : Shared} {a : Addr} {y d : V} {u r : Value} {o : Option V} {A : Around} {E : Value → Shared → Prop}
end

section
variable {X : Cx} {o e f : Expr} {apos cpos : Pos} {td ty tx : TE}
end

section
variable {X : Cx} {pins : List (Addr × Obj)} {σ : St} {H : Hp} {s : Shared} {a : Addr} {kvs : List (Key × V)} {A : Around} {E : Value → Shared → Prop}
end


section
variable {X : Cx} {pins : List (Addr × Obj)} {σ : St} {H : Hp} {s : Shared} {a : Addr} {y : V} {u : Value} {A : Around} {E : Value → Shared → Prop}
end
end L2

set_option maxHeartbeats 4000000
namespace Mine
open PySem PySem.Builtin PySem.Builtin.Str

theorem strExt {a b : Str} (h : a.cps.toList = b.cps.toList) : a = b := by
  cases a; cases b
  exact congrArg Str.mk (Array.toList_inj.mp h)
theorem strLen (a : Str) : a.length = a.cps.toList.length := by simp [Str.length]
theorem strApp (a b : Str) : (a ++ b).cps.toList = a.cps.toList ++ b.cps.toList := by
  show (a.cps ++ b.cps).toList = _
  simp
noncomputable def inter (c : Nat) : List (List Nat) → List Nat
  | [] => []
  | [x] => x
  | x :: y :: r => x ++ c :: inter c (y :: r)
theorem join_codes (c : Nat) : ∀ ys : List Str, (Str.join ⟨#[c]⟩ ys).cps.toList = inter c (ys.map (·.cps.toList))
  | [] => by simp [Str.join, inter, Str.empty]
  | [x] => rfl
  | x :: y :: r => by
    have ih := join_codes c (y :: r)
    show ((x ++ (⟨#[c]⟩ : Str)) ++ Str.join ⟨#[c]⟩ (y :: r)).cps.toList = _
    rw [strApp, strApp, ih]
    simp [inter]
theorem join_nil_codes : ∀ ys : List Str, (Str.join ⟨#[]⟩ ys).cps.toList = (ys.map (·.cps.toList)).flatten
  | [] => by simp [Str.join, Str.empty]
  | [x] => by simp [Str.join]
  | x :: y :: r => by
    have ih := join_nil_codes (y :: r)
    show ((x ++ (⟨#[]⟩ : Str)) ++ Str.join ⟨#[]⟩ (y :: r)).cps.toList = _
    rw [strApp, strApp, ih]
    simp
theorem cut_once {c : Nat} : ∀ {x y R S : List Nat}, c ∉ x → c ∉ y → (R = [] ∨ ∃ r, R = c :: r) → (S = [] ∨ ∃ r, S = c :: r) → x ++ R = y ++ S → x = y ∧ R = S
  | [], [], R, S, _, _, _, _, h => ⟨rfl, h⟩
  | [], b :: y, R, S, _, hy, hR, _, h => by
    rcases hR with rfl | ⟨r, rfl⟩
    · cases h
    · have e : c = b := (List.cons.inj h).1
      exact absurd (by rw [← e]; exact List.mem_cons_self) hy
  | a :: x, [], R, S, hx, _, _, hS, h => by
    rcases hS with rfl | ⟨r, rfl⟩
    · cases h
    · have e : a = c := (List.cons.inj h).1
      exact absurd (by rw [e]; exact List.mem_cons_self) hx
  | a :: x, b :: y, R, S, hx, hy, hR, hS, h => by
    obtain ⟨e, h'⟩ := List.cons.inj h
    obtain ⟨e2, e3⟩ := cut_once (x := x) (y := y) (fun z => hx (List.mem_cons_of_mem _ z)) (fun z => hy (List.mem_cons_of_mem _ z)) hR hS h'
    exact ⟨by rw [e, e2], e3⟩
theorem inter_tail (c : Nat) (x : List Nat) (r : List (List Nat)) : ∃ R, inter c (x :: r) = x ++ R ∧ (R = [] ∨ ∃ q, R = c :: q) ∧ (R = [] ↔ r = []) ∧ (∀ q, R = c :: q → q = inter c r) := by
  cases r with
  | nil => exact ⟨[], by simp [inter], .inl rfl, by simp, fun q h => nomatch h⟩
  | cons y r => exact ⟨c :: inter c (y :: r), rfl, .inr ⟨_, rfl⟩, by simp, fun q h => (List.cons.inj h).2.symm⟩
theorem inter_inj {c : Nat} : ∀ {xs ys : List (List Nat)}, (∀ x ∈ xs, c ∉ x) → (∀ y ∈ ys, c ∉ y) → xs ≠ [] → ys ≠ [] → inter c xs = inter c ys → xs = ys
  | [], _, _, _, h, _, _ => absurd rfl h
  | _, [], _, _, _, h, _ => absurd rfl h
  | x :: xs, y :: ys, hx, hy, _, _, h => by
    obtain ⟨R, e1, f1, g1, q1⟩ := inter_tail c x xs
    obtain ⟨S, e2, f2, g2, q2⟩ := inter_tail c y ys
    rw [e1, e2] at h
    obtain ⟨a, b⟩ := cut_once (hx x List.mem_cons_self) (hy y List.mem_cons_self) f1 f2 h
    subst a; subst b
    cases xs with
    | nil =>
      have : ys = [] := g2.mp (g1.mpr rfl)
      rw [this]
    | cons x' xs' =>
      have hR : R ≠ [] := fun z => by cases g1.mp z
      have hys : ys ≠ [] := fun z => hR (g2.mpr z)
      rcases f1 with z | ⟨q, z⟩
      · exact absurd z hR
      · have i1 := q1 q z
        have i2 := q2 q z
        rw [inter_inj (fun u hu => hx u (List.mem_cons_of_mem _ hu)) (fun u hu => hy u (List.mem_cons_of_mem _ hu)) (by simp) hys (i1.symm.trans i2)]
theorem map_codes_inj : ∀ {xs ys : List Str}, xs.map (·.cps.toList) = ys.map (·.cps.toList) → xs = ys
  | [], [], _ => rfl
  | [], _ :: _, h => by cases h
  | _ :: _, [], h => by cases h
  | x :: xs, y :: ys, h => by
    obtain ⟨a, b⟩ := List.cons.inj h
    rw [strExt a, map_codes_inj b]
theorem split_ne (x y : Str) : Txt.split x y ≠ [] := by
  unfold Txt.split
  split
  · simp
  · split
    · simp
    · intro h
      have := congrArg List.length h
      rw [length_partsBetween] at this
      simp at this
theorem split_join (c : Nat) (ys : List Str) (h0 : ys ≠ []) (hf : ∀ y ∈ ys, c ∉ y.cps.toList) : Txt.split (Str.join ⟨#[c]⟩ ys) ⟨#[c]⟩ = ys := by
  refine map_codes_inj (inter_inj (c := c) ?_ ?_ ?_ ?_ ?_)
  · intro x hx
    obtain ⟨z, hz, rfl⟩ := List.mem_map.mp hx
    exact StrLaws.split_free _ c z hz
  · intro x hx
    obtain ⟨z, hz, rfl⟩ := List.mem_map.mp hx
    exact hf z hz
  · intro h; exact split_ne _ _ (List.map_eq_nil_iff.mp h)
  · intro h; exact h0 (List.map_eq_nil_iff.mp h)
  · rw [← join_codes, ← join_codes, StrLaws.join_split]
theorem join_snoc (s : Str) (b : Str) : ∀ xs : List Str, xs ≠ [] → Str.join s (xs ++ [b]) = Str.join s xs ++ s ++ b
  | [], h => absurd rfl h
  | [x], _ => rfl
  | x :: y :: r, _ => by
    have ih := join_snoc s b (y :: r) (by simp)
    show x ++ s ++ Str.join s (y :: r ++ [b]) = (x ++ s ++ Str.join s (y :: r)) ++ s ++ b
    rw [ih]
    apply strExt
    simp only [strApp, List.append_assoc]
end Mine

set_option maxHeartbeats 4000000
namespace Mine
open PySem PySem.Builtin PySem.Builtin.Str
noncomputable def tab8 : List Int := [48271, 1000003, 15485863, 32452843, 49979687, 67867967, 86028121, 104395301]
noncomputable def tab5 : List Int := [179424673, 373587883, 573259391, 776531401, 982451653]
noncomputable def pickA (c k many : Int) : Int := Builtin.bitAnd (c / 2 ^ (1 + 10 * k).toNat) 1023 % many
noncomputable def one1 (c k : Int) : Int := (c / 2 % 2305843009213693951 + 1) * (tab8.getD (k % 8).toNat 0 * tab5.getD (k / 8).toNat 0) % 2305843009213693951
noncomputable def one2 (c k : Int) : Int := one1 c k * one1 c k % 1000000000039
noncomputable def pickB (c k many : Int) : Int := (one2 c k + k + 1) * (one2 c k / 10007 + 48271) % 67280421310721 / 31 % many
noncomputable def pick (c k many : Int) : Int := if c % 2 = 1 ∧ 0 < c / 2 ^ (400 : Int).toNat then pickA c k many else pickB c k many
theorem pick_ge (c k : Int) {m : Int} (h : 0 < m) : 0 ≤ pick c k m := by
  unfold pick; split
  · exact Int.emod_nonneg _ (by omega)
  · exact Int.emod_nonneg _ (by omega)
theorem pick_lt (c k : Int) {m : Int} (h : 0 < m) : pick c k m < m := by
  unfold pick; split
  · exact Int.emod_lt_of_pos _ h
  · exact Int.emod_lt_of_pos _ h
theorem one1_ge (c k : Int) : 0 ≤ one1 c k := Int.emod_nonneg _ (by decide)
theorem one1_lt (c k : Int) : one1 c k < 2305843009213693951 := Int.emod_lt_of_pos _ (by decide)
theorem one2_ge (c k : Int) : 0 ≤ one2 c k := Int.emod_nonneg _ (by decide)
theorem one2_lt (c k : Int) : one2 c k < 1000000000039 := Int.emod_lt_of_pos _ (by decide)
theorem tab8_at {k : Int} (h0 : 0 ≤ k) (h1 : k < 8) : tab8[k.toNat]? = some (tab8.getD k.toNat 0) ∧ 0 < tab8.getD k.toNat 0 ∧ tab8.getD k.toNat 0 < 1000000000 := by
  have : ∀ n : Fin 8, tab8[n.val]? = some (tab8.getD n.val 0) ∧ 0 < tab8.getD n.val 0 ∧ tab8.getD n.val 0 < 1000000000 := by decide
  exact this ⟨k.toNat, by omega⟩
theorem tab5_at {k : Int} (h0 : 0 ≤ k) (h1 : k < 5) : tab5[k.toNat]? = some (tab5.getD k.toNat 0) ∧ 0 < tab5.getD k.toNat 0 ∧ tab5.getD k.toNat 0 < 1000000000 := by
  have : ∀ n : Fin 5, tab5[n.val]? = some (tab5.getD n.val 0) ∧ 0 < tab5.getD n.val 0 ∧ tab5.getD n.val 0 < 1000000000 := by decide
  exact this ⟨k.toNat, by omega⟩
theorem mul_small {a b : Int} (ha : 0 < a) (ha' : a < 1000000000) (hb : 0 < b) (hb' : b < 1000000000) : 0 < a * b ∧ a * b < 1000000000000000000 := by
  have h1 := Int.mul_pos ha hb
  have h2 : a * b ≤ 1000000000 * b := Int.mul_le_mul_of_nonneg_right (by omega) (by omega)
  exact ⟨h1, by omega⟩
noncomputable def cell (ns : List Int) (k : Int) : Int := if k < (ns.length : Int) then Builtin.bitAnd (ns.getD k.toNat 0) (1 * 2 ^ (16000 : Int).toNat - 1) else 0
noncomputable def subA (c j : Int) : Int := Builtin.bitOr (c / 2 ^ (480 * j).toNat) 1
noncomputable def subB (c j : Int) : Int := (c / 2 / (j + 1) + 104729 * j) * 2
noncomputable def sub (c j : Int) : Int := if c % 2 = 1 ∧ 0 < c / 2 ^ (480 * j + 400).toNat then subA c j else subB c j
noncomputable def number (c far : Int) : Int := if c % 2 = 1 ∧ 0 < c / 2 ^ (400 : Int).toNat then c / 2 ^ (400 : Int).toNat % far else c / 2 % far
noncomputable def letter (c j : Int) : Nat := 97 + (pick c (31 + j) 26).toNat
noncomputable def nameLen (c : Int) : Nat := (1 + pick c 30 8).toNat
noncomputable def nameCodes (c : Int) : List Nat := (List.range (nameLen c)).map fun (j : Nat) => letter c (j : Int)
noncomputable def name (c : Int) : Str := ⟨(nameCodes c).toArray⟩
theorem nameLen_ge (c : Int) : 1 ≤ nameLen c := by unfold nameLen; have := pick_ge c 30 (m := 8) (by decide); omega
theorem nameLen_le (c : Int) : nameLen c ≤ 8 := by unfold nameLen; have := pick_lt c 30 (m := 8) (by decide); omega
theorem name_length (c : Int) : (name c).length = nameLen c := by simp [name, nameCodes, Str.length]
structure IsNm (x : Str) : Prop where
  lo : 1 ≤ x.length
  hi : x.length ≤ 8
  ok : ∀ n ∈ x.cps.toList, 97 ≤ n ∧ n ≤ 122
theorem isNm_name (c : Int) : IsNm (name c) := by
  refine ⟨by rw [name_length]; exact nameLen_ge c, by rw [name_length]; exact nameLen_le c, fun n hn => ?_⟩
  have hn' : n ∈ nameCodes c := by simpa [name] using hn
  obtain ⟨j, _, rfl⟩ := List.mem_map.mp hn'
  have h1 := pick_ge c (31 + (j : Int)) (m := 26) (by decide)
  have h2 := pick_lt c (31 + (j : Int)) (m := 26) (by decide)
  unfold letter
  omega
theorem IsNm.nodot {x : Str} (h : IsNm x) : 46 ∉ x.cps.toList := fun z => by have := h.ok 46 z; omega
noncomputable def letters : Str := "abcdefghijklmnopqrstuvwxyz"
theorem letters_at {k : Int} (h0 : 0 ≤ k) (h1 : k < 26) : letters.cps.toList[k.toNat]? = some (97 + k.toNat) := by
  have : ∀ n : Fin 26, letters.cps.toList[n.val]? = some (97 + n.val) := by decide +kernel
  exact this ⟨k.toNat, by omega⟩
theorem join_letters (c : Int) (n : Nat) : Txt.join (⟨#[]⟩ : Str) ((List.range n).map fun (j : Nat) => (⟨#[letter c (j : Int)]⟩ : Str)) = ⟨((List.range n).map fun (j : Nat) => letter c (j : Int)).toArray⟩ := by
  show glued _ _ = _
  rw [StrLaws.glued_eq_join]
  apply strExt
  rw [join_nil_codes, List.map_map]
  have : ∀ l : List Nat, (l.map ((fun x : Str => x.cps.toList) ∘ fun (j : Nat) => (⟨#[letter c (j : Int)]⟩ : Str))).flatten = l.map fun (j : Nat) => letter c (j : Int) := by
    intro l
    induction l with
    | nil => rfl
    | cons a r ih => simp only [List.map_cons, List.flatten_cons, ih] <;> rfl
  rw [this]
theorem dot_eq : (("." : Str)) = ⟨#[46]⟩ := by decide +kernel
theorem empty_eq : (("" : Str)) = ⟨#[]⟩ := by decide +kernel
noncomputable def dotted (ys : List Str) : Str := Txt.join ("." : Str) ys
theorem dotted_join (ys : List Str) : dotted ys = Str.join ⟨#[46]⟩ ys := by
  unfold dotted
  rw [dot_eq]
  exact StrLaws.glued_eq_join _ ys
theorem dotted_split (ys : List Str) (h0 : ys ≠ []) (hn : ∀ y ∈ ys, IsNm y) : Txt.split (dotted ys) ("." : Str) = ys := by
  rw [dotted_join, dot_eq]
  exact split_join 46 ys h0 fun y hy => (hn y hy).nodot
theorem sum_le {ys : List Str} {n : Nat} (h : ∀ y ∈ ys, y.length ≤ n) : (ys.map (·.length)).sum ≤ ys.length * n := by
  induction ys with
  | nil => simp
  | cons y r ih =>
    have h1 := h y List.mem_cons_self
    have h2 := ih fun z hz => h z (List.mem_cons_of_mem _ hz)
    simp only [List.map_cons, List.sum_cons, List.length_cons, Nat.add_mul, Nat.one_mul]
    omega
theorem dotted_len (ys : List Str) : (dotted ys).length ≤ (ys.map (·.length)).sum + ys.length := by
  rw [dotted_join]
  have := StrLaws.join_length_le ⟨#[46]⟩ ys
  have e : (⟨#[46]⟩ : Str).length = 1 := rfl
  rw [e] at this
  omega
end Mine

set_option maxHeartbeats 4000000
namespace L2
open PySem PySem.Spec PyProof.Rows

section
variable {X : Cx}
noncomputable def rInst (K : PySem.W.Frag) : List V → Hp → VK → Prop := fun xs H Q => ∃ x t n b, xs = [x, .ty n] ∧ TyOf K H x t ∧ PySem.W.kitOne K t (.type n) = some b ∧ Q (.bl b) H
theorem call_inst : CallR X (.builtin "isinstance") (rInst X.K) := by
  intro pins s σ H xs us Q I r h
  obtain ⟨x, t, n, b, rfl, ty, e, q⟩ := h
  obtain ⟨u, u2, rfl, rx, ry⟩ := vals2 r
  cases (show u2 = Value.type n from ry)
  exact isinst_ok I rx ty e fun tk => ⟨.bl b, H, I.tok tk, rfl, q⟩
theorem kit_same {K : PySem.W.Frag} {n : String} : PySem.W.kitOne K (.type n) (.type n) = some true := by
  unfold PySem.W.kitOne
  rw [if_pos (by simp)]

theorem strs_of {ys : List Str} : ∀ {us : List Value}, Vals (ys.map V.str) us → StrsAre us ys := by
  induction ys with
  | nil => intro us r; rw [List.map_nil] at r; cases r; exact .nil
  | cons y ys ih =>
    intro us r
    rw [List.map_cons] at r
    cases r with
    | cons r1 r2 =>
      obtain ⟨t, e⟩ := r1
      subst e
      exact .cons y t (ih r2)
theorem vals_strs : ∀ (l : List (Str × Tok)), Vals ((l.map (·.1)).map V.str) (strValues l)
  | [] => .nil
  | (y, t) :: l => .cons ⟨t, rfl⟩ (vals_strs l)
noncomputable def rJoin (K : PySem.W.Frag) : V → List V → Hp → VK → Prop := fun x vs H Q => ∃ sep p ys, x = .str sep ∧ vs = [.ref p] ∧ (SqL K H p (ys.map V.str) ∨ SqT K H p (ys.map V.str)) ∧
  (ys.map (·.length)).sum + ys.length * sep.length ≤ 16777216 ∧ Q (.str (Txt.join sep ys)) H
theorem mt_join : MtR X "str.join" (rJoin X.K) := by
  intro pins s σ H x vs v us Q I rx rv h
  obtain ⟨sep, p, ys, rfl, rfl, hq, hz, q⟩ := h
  obtain ⟨t, rfl⟩ := rx
  obtain ⟨u, rfl, ru⟩ := vals1 rv
  cases (show u = Value.ref p from ru)
  rcases hq with hq | hq
  · obtain ⟨its, r, pl, _⟩ := I.list hq
    exact join_list pl.isList (by simpa using strs_of r) hz fun t' k => ⟨.str _, H, I.tok k, ⟨t', rfl⟩, q⟩
  · obtain ⟨its, r, pl, _⟩ := I.tuple hq
    exact join_tuple pl (by simpa using strs_of r) hz fun t' k => ⟨.str _, H, I.tok k, ⟨t', rfl⟩, q⟩
noncomputable def rSplit : V → List V → Hp → VK → Prop := fun x vs H Q => ∃ z sep, x = .str z ∧ vs = [.str sep] ∧ (sep.length == 0) = false ∧ z.length + 2 ≤ sizeLine ∧
  ∀ p, H p = none → Q (.ref p) (upd H p (.lst ((Txt.split z sep).map V.str)))
theorem split_few (z sep : Str) (h : z.length + 2 ≤ sizeLine) : (Txt.split z sep).length ≤ sizeLine := by
  unfold Txt.split
  split
  · simp; omega
  · split
    · simp; omega
    · have e1 := StrLaws.occ_length_le z sep 0 z.length (z.length + 1)
      rw [length_partsBetween]; omega
theorem mt_split : MtR X "str.split" rSplit := by
  intro pins s σ H x vs v us Q I rx rv h
  obtain ⟨z, sep, rfl, rfl, hy, hz, q⟩ := h
  obtain ⟨t, rfl⟩ := rx
  obtain ⟨u, rfl, ru⟩ := vals1 rv
  obtain ⟨t2, rfl⟩ := ru
  have fin : ∀ (l : List (Str × Tok)) (k : Nat), l.map (·.1) = Txt.split z sep →
      EP X pins σ Q (.ref s.heap.objs.size) { s with heap := s.heap.push { cls := .type "list", data := .seq (strValues l).toArray }, toks := k } := fun l k e => by
    have hv := vals_strs l
    rw [e] at hv
    exact ⟨.ref s.heap.objs.size, _, I.lnew hv (by rw [List.length_map]; exact split_few z sep hz), rfl, q _ I.fresh⟩
  have few : (Builtin.Str.partsBetween z (Builtin.Str.occurrences z sep 0 z.length (z.length + 1)) sep.length).length ≤ sizeLine := by
    have e1 := StrLaws.occ_length_le z sep 0 z.length (z.length + 1)
    rw [length_partsBetween]; omega
  cases h1 : (decide (z.length < sep.length) || decide (Builtin.Str.strKind z < Builtin.Str.strKind sep))
  · cases hf : (Builtin.Str.occurrences z sep 0 z.length (z.length + 1)).isEmpty
    · refine call_meets F.slot_str_split (typeIs_str _ _ _) F.entry_str_split (F.args_str_split_2 _ _) (meets_str_split_sep z sep t t2 h1 hy hf (by omega) few) ?_
      rw [strsFrom_eq]
      exact fin (numbered s.toks _) _ ((numbered_texts _ _).trans (by unfold Txt.split; rw [if_neg (by rw [h1]; exact Bool.false_ne_true), if_neg (by rw [hf]; exact Bool.false_ne_true)]))
    · refine call_meets F.slot_str_split (typeIs_str _ _ _) F.entry_str_split (F.args_str_split_2 _ _) (meets_str_split_not_found z sep t t2 h1 hy hf) ?_
      exact fin [(z, t)] s.toks (by unfold Txt.split; rw [if_neg (by rw [h1]; exact Bool.false_ne_true), if_pos hf] <;> rfl)
  · refine call_meets F.slot_str_split (typeIs_str _ _ _) F.entry_str_split (F.args_str_split_2 _ _) (meets_str_split_cannot_occur z sep t t2 h1) ?_
    exact fin [(z, t)] s.toks (by unfold Txt.split; rw [if_pos h1] <;> rfl)
end
end L2

set_option maxHeartbeats 4000000
namespace L2
open PySem PySem.Spec PyProof.Rows

theorem clos_go {env : Env} : ∀ (ns : List (Str × NameKind)) (acc : List (Str × Addr)), (∀ y ∈ ns, y.2 = .free → ∃ c, env.cells.lookup y.1 = some c) → (∀ p ∈ acc, env.cells.lookup p.1 = some p.2) →
    ∃ cl : List (Str × Addr), (forIn ns acc fun (y : Str × NameKind) (cs : List (Str × Addr)) => (match y with
      | (name, kind) => if (kind == NameKind.free) = true then (do let c ← cellOf env name; pure (ForInStep.yield ((name, c) :: cs))) else pure (ForInStep.yield cs) : Sem (ForInStep (List (Str × Addr))))) = pure cl ∧
      (∀ p ∈ cl, env.cells.lookup p.1 = some p.2) ∧ (∀ p ∈ acc, p ∈ cl) ∧ ∀ y ∈ ns, y.2 = .free → ∃ c, (y.1, c) ∈ cl
  | [], acc, _, ha => ⟨acc, rfl, ha, fun _ h => h, fun _ h => nomatch h⟩
  | (n, k) :: r, acc, hn, ha => by
    have hr : ∀ y ∈ r, y.2 = .free → ∃ c, env.cells.lookup y.1 = some c := fun y hy => hn y (List.mem_cons_of_mem _ hy)
    by_cases hk : k = NameKind.free
    · subst hk
      obtain ⟨c, hc⟩ := hn (n, .free) List.mem_cons_self rfl
      have hc' : env.cells.lookup n = some c := hc
      obtain ⟨cl, e, h1, h2, h3⟩ := clos_go r ((n, c) :: acc) hr (fun p hp => by
        rcases List.mem_cons.mp hp with rfl | hp
        · exact hc'
        · exact ha p hp)
      refine ⟨cl, ?_, h1, fun p hp => h2 p (List.mem_cons_of_mem _ hp), fun y hy hf => ?_⟩
      · rw [List.forIn_cons]
        have e1 : cellOf env n = pure c := by unfold cellOf; rw [hc']
        simp only [beq_self_eq_true, if_true, e1, pure_bind]
        exact e
      · rcases List.mem_cons.mp hy with rfl | hy
        · exact ⟨c, h2 _ List.mem_cons_self⟩
        · exact h3 y hy hf
    · obtain ⟨cl, e, h1, h2, h3⟩ := clos_go r acc hr ha
      refine ⟨cl, ?_, h1, h2, fun y hy hf => ?_⟩
      · rw [List.forIn_cons]
        have hb : (k == NameKind.free) = false := by simpa using hk
        simp only [hb, Bool.false_eq_true, if_false, pure_bind]
        exact e
      · rcases List.mem_cons.mp hy with rfl | hy
        · exact absurd hf hk
        · exact h3 y hy hf
theorem look_some {α : Type} : ∀ {l : List (Str × α)} {x : Str} {c : α}, (x, c) ∈ l → ∃ d, l.lookup x = some d
  | [], _, _, h => nomatch h
  | (y, d) :: r, x, c, h => by
    by_cases e : x = y
    · subst e; exact ⟨d, by simp [List.lookup_cons]⟩
    · have hb : (x == y) = false := by simpa using e
      rcases List.mem_cons.mp h with z | z
      · cases z; exact absurd rfl e
      · obtain ⟨d', h'⟩ := look_some z
        exact ⟨d', by simp only [List.lookup_cons, hb]; exact h'⟩
theorem clos_ok {scope : Scope} {env : Env} (h : ∀ y ∈ scope.names, y.2 = .free → ∃ c, env.cells.lookup y.1 = some c) :
    ∃ cl : List (Str × Addr), closureFor scope env = pure cl ∧ (∀ x c, cl.lookup x = some c → env.cells.lookup x = some c) ∧ ∀ x, (x, NameKind.free) ∈ scope.names → ∃ c, cl.lookup x = some c := by
  obtain ⟨cl, e, h1, _, h3⟩ := clos_go (env := env) scope.names [] h (fun p hp => nomatch hp)
  refine ⟨cl, ?_, fun x c q => h1 (x, c) (PySem.mem_of_lookup q), fun x hx => ?_⟩
  · simp only [closureFor]
    simp only [bind_pure]
    exact e
  · obtain ⟨c, hc⟩ := h3 (x, .free) hx rfl
    exact look_some hc

noncomputable def ixOk (osc sc : Scope) (oN : List Str) : List (Option Nat) → List Str → Bool
  | [], [] => true
  | none :: r, _ :: n => ixOk osc sc oN r n
  | some k :: r, x :: n => (oN[k]? == some x) && (sc.names.lookup x == some .free) && ixOk osc sc oN r n
  | _, _ => false
theorem ixOk_len {osc sc : Scope} {oN : List Str} : ∀ {ix : List (Option Nat)} {N : List Str}, ixOk osc sc oN ix N = true → ix.length = N.length
  | [], [], _ => rfl
  | none :: _, _ :: _, h => congrArg (· + 1) (ixOk_len (by simpa [ixOk] using h))
  | some _ :: _, _ :: _, h => congrArg (· + 1) (ixOk_len (by simp [ixOk] at h; exact h.2))
  | [], _ :: _, h => by simp [ixOk] at h
  | none :: _, [], h => by simp [ixOk] at h
  | some _ :: _, [], h => by simp [ixOk] at h
theorem ixOk_at {osc sc : Scope} {oN : List Str} : ∀ {ix : List (Option Nat)} {N : List Str} (i k : Nat), ixOk osc sc oN ix N = true → ix[i]? = some (some k) → ∃ x, N[i]? = some x ∧ oN[k]? = some x ∧ sc.names.lookup x = some .free
  | [], _, _, _, _, e => by simp at e
  | none :: _, [], _, _, h, _ => by simp [ixOk] at h
  | some _ :: _, [], _, _, h, _ => by simp [ixOk] at h
  | none :: r, x :: n, 0, _, _, e => by simp at e
  | none :: r, x :: n, i + 1, k, h, e => by
    obtain ⟨y, h1, h2⟩ := ixOk_at (ix := r) (N := n) i k (by simpa [ixOk] using h) (by simpa using e)
    exact ⟨y, by simpa using h1, h2⟩
  | some j :: r, x :: n, 0, k, h, e => by
    simp [ixOk] at h
    simp at e
    subst e
    exact ⟨x, by simp, h.1.1, h.1.2⟩
  | some j :: r, x :: n, i + 1, k, h, e => by
    simp [ixOk] at h
    obtain ⟨y, h1, h2⟩ := ixOk_at (ix := r) (N := n) i k h.2 (by simpa using e)
    exact ⟨y, by simpa using h1, h2⟩
noncomputable def blkOk (osc : Scope) (oN N : List Str) (ix : List (Option Nat)) (sc : Scope) : Bool :=
  (sc.kind == .function) && sc.names.all (fun y => (y.2 != .cell) && ((y.2 != .local) || (sc.names.lookup y.1 == some .local)) && ((y.2 != .free) || ((osc.names.lookup y.1 == some .cell) || (osc.names.lookup y.1 == some .free)))) && ixOk osc sc oN ix N
theorem relab_free {env : Env} : ∀ {names : List (Str × NameKind)} {x : Str}, names.lookup x = some .free →
    (names.map fun (n, k) => if (k == NameKind.free && env.scope.kind == .function && env.kindOf n == some .cell) then (n, NameKind.cell) else (n, k)).lookup x = some .cell ∨
    (names.map fun (n, k) => if (k == NameKind.free && env.scope.kind == .function && env.kindOf n == some .cell) then (n, NameKind.cell) else (n, k)).lookup x = some .free
  | [], _, h => by simp at h
  | (n, k) :: r, x, h => by
    have ih := @relab_free env r x
    simp only [List.map_cons]
    cases hx : x == n with
    | true =>
      simp only [List.lookup_cons, hx] at h
      cases h
      by_cases hc : (NameKind.free == NameKind.free && env.scope.kind == .function && env.kindOf n == some .cell) = true
      · left; rw [if_pos hc]; simp only [List.lookup_cons, hx]
      · right; rw [if_neg hc]; simp only [List.lookup_cons, hx]
    | false =>
      simp only [List.lookup_cons, hx] at h
      by_cases hc : (k == NameKind.free && env.scope.kind == .function && env.kindOf n == some .cell) = true
      · rw [if_pos hc]; simp only [List.lookup_cons, hx]; exact ih h
      · rw [if_neg hc]; simp only [List.lookup_cons, hx]; exact ih h
theorem relab_back {env : Env} : ∀ {names : List (Str × NameKind)} {x : Str}, (∀ y ∈ names, y.2 ≠ NameKind.cell) →
    ((names.map fun (n, k) => if (k == NameKind.free && env.scope.kind == .function && env.kindOf n == some .cell) then (n, NameKind.cell) else (n, k)).lookup x = some .cell ∨
    (names.map fun (n, k) => if (k == NameKind.free && env.scope.kind == .function && env.kindOf n == some .cell) then (n, NameKind.cell) else (n, k)).lookup x = some .free) → (x, NameKind.free) ∈ names
  | [], _, _, h => by simp at h
  | (n, k) :: r, x, hn, h => by
    have ih := @relab_back env r x fun y hy => hn y (List.mem_cons_of_mem _ hy)
    simp only [List.map_cons] at h
    by_cases hc : (k == NameKind.free && env.scope.kind == .function && env.kindOf n == some .cell) = true
    · rw [if_pos hc] at h
      cases hx : x == n with
      | true =>
        have e : x = n := by simpa using hx
        have e2 : k = NameKind.free := by simp at hc; exact hc.1.1
        subst e; subst e2
        exact List.mem_cons_self
      | false =>
        simp only [List.lookup_cons, hx] at h
        exact List.mem_cons_of_mem _ (ih h)
    · rw [if_neg hc] at h
      cases hx : x == n with
      | true =>
        have e : x = n := by simpa using hx
        subst e
        simp only [List.lookup_cons, hx] at h
        rcases h with h | h
        · cases h; exact absurd rfl (hn (x, .cell) List.mem_cons_self)
        · cases h; exact List.mem_cons_self
      | false =>
        simp only [List.lookup_cons, hx] at h
        exact List.mem_cons_of_mem _ (ih h)

noncomputable def blk (X : Cx) (N : List Str) (sc : Scope) (cl : List (Str × Addr)) (C : Addr) (fp : List Addr) (s : Shared) (H : Hp) : Cx :=
  { X with N := N, s₀ := s, H₀ := H, env := compEnvC sc cl C X.env, outer := X.stack, ex := fp, fn := fun _ => false, pn := [], xe := fun _ _ => False }
noncomputable def lift (ix : List (Option Nat)) (σ : St) : St := ix.map fun o => o.bind fun k => (σ[k]?).bind id
noncomputable def PF (X : Cx) (ifs : List Expr) (t : TT) : Prop :=
  ∀ (pins : List (Addr × Obj)) (s : Shared) (σ : St) (H : Hp) (Q : Bool → Hp → Prop), Inv X pins σ H s → t σ H Q →
    wpAny (model X.prog X.w) X.A (forIn ifs true fun c r => if r = true then do let ok ← isTrue c X.env (eval c X.env); pure (ForInStep.yield ok) else pure (ForInStep.yield r)) (TP X pins σ Q) X.xe s
noncomputable def tYes : TT := fun _ H Q => Q true H
theorem pf_nil {X : Cx} : PF X [] tYes := fun pins s σ H Q I h => wpAny_tests_nil ⟨H, I, h⟩
theorem pf_one {X : Cx} {c : Expr} {t : TT} (hc : PT X c t) : PF X [c] t := fun pins s σ H Q I h => wpAny_tests_one (hc pins s σ H Q I h)

noncomputable def CompW (g : TG) (tf : TT) (te : TE) (J : It) (σ0 : St) (H1 : Hp) (Fin : List V → Hp → Prop) : Prop :=
  ∃ W : Nat → Nat → St → List V → Hp → Prop, (∃ m, W 0 m σ0 [] H1) ∧ ∀ i m τ ys H, W i m τ ys H →
    (J.stop i H ∧ Fin ys H) ∨ (J.go i H ∧ ∀ x H', J.yld i H x H' → g x τ H' fun τ2 H2 => tf τ2 H2 fun b H3 =>
      if b = true then te τ2 H3 fun y H4 => ys.length < sizeLine ∧ ∃ m', m' < m ∧ W (i + 1) m' τ2 (ys ++ [y]) H4 else ∃ m', m' < m ∧ W (i + 1) m' τ2 ys H3)
noncomputable def tComp (ix : List (Option Nat)) (wi : TI) (g : TG) (tf : TT) (te : TE) : TE := fun σ H Q => wi σ H fun J H1 => CompW g tf te J (lift ix σ) H1 fun ys H' => ∀ p, H' p = none → Q (.ref p) (upd H' p (.lst ys))

theorem cloop {P : Program} {w : World} {A : Around} {R : Result → Shared → Prop} {s : Shared} {el tg src : Expr} {fs : List Expr} {sc : Scope} {ps : Pos} {iv ac : Value} {en : Env} (J : Nat → Shared → Prop)
    (turn : ∀ n s, J n s → wpAny (model P w) A (pyNext iv) (fun r s1 => match r with
      | none => R (.ok .next) s1
      | some v => wpAny (model P w) A (letOwnedTupleGo tg iv v) (fun _ s2 => wpAny (model P w) A (assign tg en v) (fun _ s3 =>
          wpAny (model P w) A (forIn fs true fun c r => if r = true then do let ok ← isTrue c en (eval c en); pure (ForInStep.yield ok) else pure (ForInStep.yield r)) (fun ok s4 =>
            if ok = true then wpAny (model P w) A (eval el en) (fun x s5 => wpAny (model P w) A (call (.builtin "list.append") [ac, x]) (fun _ s6 => ∃ m, m < n ∧ J m s6) (fun _ _ => False) s5) (fun _ _ => False) s4
            else ∃ m, m < n ∧ J m s4) (fun _ _ => False) s3) (fun _ _ => False) s2) (fun _ _ => False) s1) (fun _ _ => False) s)
    (n : Nat) (h : J n s) : codeAny (model P w) A (.compLoop (.ListComp el [⟨tg, src, fs, 0⟩] sc ps) 0 iv ac en) R s := by
  have ab : ∀ {α : Type} {t : Sem α} {Q Q' : α → Shared → Prop} {E : Value → Shared → Prop} {s : Shared}, wpAny (model P w) A t Q (fun _ _ => False) s → (∀ a s, Q a s → Q' a s) → wpAny (model P w) A t Q' E s :=
    fun h hq => wpAny_mono h hq fun _ _ f => f.elim
  refine codeAny_loop rfl J (fun n s hJ => ?_) n h
  show wpAny _ A ((compTurn (.ListComp el [⟨tg, src, fs, 0⟩] sc ps) 0 iv ac en).onRaise (fun x => do noteFrame x en; theTreesLotGoes x)) _ _ s
  refine wpAny_noted ?_
  rw [compTurn_list]
  refine wpAny_bind (wpAny_standAt (wpAny_bind (ab (turn n s hJ) fun r s1 h1 => ?_)))
  cases r with
  | none => exact wpAny_pure h1
  | some v =>
    refine wpAny_bind (ab h1 fun _ s2 h2 => wpAny_bind (ab h2 fun _ s3 h3 => wpAny_bind (ab h3 fun ok s4 h4 => ?_)))
    cases ok with
    | false => exact wpAny_pure ⟨rfl, h4⟩
    | true => exact wpAny_bind (wpAny_bind (ab h4 fun x s5 h5 => wpAny_bind (ab h5 fun _ s6 h6 => wpAny_pure (wpAny_pure ⟨rfl, h6⟩))))

section
variable {X : Cx} {pins : List (Addr × Obj)} {σ : St} {H2 : Hp} {s2 : Shared} {N : List Str} {ix : List (Option Nat)} {sc : Scope} {cl : List (Str × Addr)}
theorem blk_ok (I : Inv X pins σ H2 s2) (hb : blkOk X.env.scope X.N N ix sc = true) (c1 : ∀ x c, cl.lookup x = some c → X.env.cells.lookup x = some c) (c2 : ∀ x, (x, NameKind.free) ∈ sc.names → ∃ c, cl.lookup x = some c)
    {fp : List Addr} (hf : ∀ b ∈ fp, FpOk X pins H2 b) (hfo : ∀ b ∈ fp, ∃ o, s2.heap.get? b = some o) {C : Addr} (hC : s2.heap.objs.size ≤ C) : (blk X N sc cl C fp s2 H2).Ok := by
  unfold blkOk at hb
  simp only [Bool.and_eq_true] at hb
  obtain ⟨⟨hk, hn⟩, hi⟩ := hb
  have nocell : ∀ y ∈ sc.names, y.2 ≠ NameKind.cell := fun y hy => by
    have := List.all_eq_true.mp hn y hy
    simp only [Bool.and_eq_true] at this
    simpa using this.1.1
  refine ⟨I.ok.mod, ?_, I.ok.glob, I.ok.blt, hC, fun x y c h1 h2 => I.ok.inj x y c (c1 x c h1) (c1 y c h2), fun x hx => ?_, fun x c hx => ?_, I.ok.hd, I.ok.frames, .inl rfl, fun b hb => ⟨?_, fun x c h => ?_⟩, I.bs, Nat.le_trans I.ok.bsz I.sz, fun b o e hb => ?_, fun b hb hs => ?_, I.stack, I.stkFree⟩
  · show (relabel sc X.env).kind = .function
    exact eq_of_beq hk
  · exact c2 x (relab_back nocell hx)
  · cases hx
  · show b ≠ C
    obtain ⟨o, e⟩ := hfo b hb
    exact Nat.ne_of_lt (Nat.lt_of_lt_of_le (Heap.lt_size e) hC)
  · obtain ⟨_, _, _, _, h5, _⟩ := hf b hb
    exact h5 x c (c1 x c h)
  · obtain ⟨_, _, _, h4, _, _⟩ := hf b hb
    rcases h4 with h4 | h4
    · exact I.ok.noex b o e h4
    · exact absurd (Nat.lt_of_lt_of_le (Heap.lt_size (I.ok.bs b o e).1) h4) (Nat.lt_irrefl _)
  · obtain ⟨_, h2, h3, _⟩ := hf b hb
    rcases List.mem_cons.mp (I.stkSub b hs) with z | z
    · exact h2 z
    · exact h3 z
theorem Un.grow {fs ex : List Addr} {H H' : Hp} {h h' : Heap} {D : Addr} {o : HO} (u : Un fs ex H H' h h') (hD : h.objs.size ≤ D) (hn : H D = none) : Un fs ex H (upd H' D o) h h' := by
  have lt : ∀ {b : Addr} {ob : Obj}, h.get? b = some ob → b ≠ D := fun e z => by
    subst z; exact absurd (Nat.lt_of_lt_of_le (Heap.lt_size e) hD) (Nat.lt_irrefl _)
  refine ⟨u.keep, u.slot, fun b ob e n hx => by rw [upd_ne (lt e)]; exact u.free b ob e n hx, u.there, fun b xs e => ?_, fun b ob v e => ?_, fun b ps e => ?_⟩
  · rw [upd_ne (ne_of_none e hn)]; exact u.tups b xs e
  · rw [upd_ne (ne_of_none e hn)]; exact u.frzs b ob v e
  · obtain ⟨m, q⟩ := u.tbls b ps e
    exact ⟨m, by rw [upd_ne (ne_of_none e hn)]; exact q⟩
theorem HOk.grow {P : Program} {w : World} {H : Hp} {h : Heap} {D : Addr} {o : HO} (x : HOk P w H h) (hn : H D = none) (new : ObjOk P w (upd H D o) h D o) : HOk P w (upd H D o) h := fun b u e => by
  by_cases hb : b = D
  · subst hb; rw [upd_same] at e; cases e; exact new
  · rw [upd_ne hb] at e
    exact (x b u e).stay (fun _ _ _ q => q) (fun c q => by rw [upd_ne (ne_of_none q hn)]; exact q) fun c xs q => by rw [upd_ne (ne_of_none q hn)]; exact q

theorem lift_at {ix : List (Option Nat)} {σ : St} {i : Nat} {v : V} (h : (lift ix σ)[i]? = some (some v)) : ∃ k, ix[i]? = some (some k) ∧ σ[k]? = some (some v) := by
  unfold lift at h
  rw [List.getElem?_map] at h
  cases e : ix[i]? with
  | none => rw [e] at h; cases h
  | some o =>
    rw [e] at h
    cases o with
    | none => simp at h
    | some k =>
      refine ⟨k, rfl, ?_⟩
      simp only [Option.map_some, Option.bind_some, Option.some.injEq] at h
      cases q : σ[k]? with
      | none => rw [q] at h; cases h
      | some z => rw [q] at h; have h' : z = some v := h; rw [h']

theorem comp_core {el tg src : Expr} {ifs : List Expr} {pos : Pos} {g : TG} {tf : TT} {te : TE} {J : It} {fp : List Addr} {it : Addr} {tn : Nat → Heap → Prop} {E : Value → Shared → Prop} {Fin : List V → Hp → Prop} {RR : Value → Addr → Result → Shared → Prop}
    (I : Inv X pins σ H2 s2) (hc : X.calm = true) (hb : blkOk X.env.scope X.N N ix sc = true) (c1 : ∀ x c, cl.lookup x = some c → X.env.cells.lookup x = some c) (c2 : ∀ x, (x, NameKind.free) ∈ sc.names → ∃ c, cl.lookup x = some c)
    (T : Turn X.prog X.w X.K tg J fp it tn) (st : tn 0 s2.heap) (hf : ∀ b ∈ fp, FpOk X pins H2 b)
    (hg : ∀ C fp, PG (blk X N sc cl C fp s2 H2) tg g) (hfs : ∀ C fp, PF (blk X N sc cl C fp s2 H2) ifs tf) (he : ∀ C fp, PE (blk X N sc cl C fp s2 H2) el te)
    (hW : CompW g tf te J (lift ix σ) H2 Fin)
    (hRR : ∀ D C s' ys H', H' D = none → (∃ m, s'.heap.Ns C m) → Inv X pins σ (upd H' D (.lst ys)) s' → FpOk X pins (upd H' D (.lst ys)) C → Fin ys H' → RR (.ref D) C (.ok .next) s') :
    wpAny (model X.prog X.w) X.A (newList []) (fun acc s3 => wpAny (model X.prog X.w) X.A (newFunctionEnv sc X.env.globals cl [] X.env.qual none .none (some X.env)) (fun cenv s4 =>
      codeAny (model X.prog X.w) X.A (.compStart (.ListComp el [⟨tg, src, ifs, 0⟩] sc pos) 0 (.ref it) acc { cenv with scope := relabel sc X.env }) (RR acc cenv.locals) s4) E s3) E s2 := by
  obtain ⟨W, ⟨m0, w0⟩, turn⟩ := hW
  have hb' := hb
  unfold blkOk at hb'
  simp only [Bool.and_eq_true] at hb'
  obtain ⟨⟨hk, hn⟩, hi⟩ := hb'
  have nocell : ∀ y ∈ sc.names, y.2 ≠ NameKind.cell := fun y hy => by
    have := List.all_eq_true.mp hn y hy
    simp only [Bool.and_eq_true] at this
    simpa using this.1.1
  have hkind : sc.kind = .function := eq_of_beq hk
  refine wpAny_newObj_type (wpAny_newFunctionEnv nocell (by intro y hy; simp at hy) (fun h1 hns hsb => ?_) hkind)
  dsimp only at hns hsb ⊢
  generalize hP : s2.heap.push { cls := .type "list", dict := none, data := .seq ([] : List Value).toArray } = P2 at hns hsb ⊢
  have hC : P2.objs.size = s2.heap.objs.size + 1 := by rw [← hP, Heap.size_push]
  have hDC : s2.heap.objs.size ≠ P2.objs.size := by rw [hC]; exact Nat.ne_of_lt (Nat.lt_succ_self _)
  have hCle : s2.heap.objs.size ≤ P2.objs.size := by rw [hC]; omega
  have fpo : ∀ b ∈ fp, ∃ o, s2.heap.get? b = some o := fun b hb => let ⟨o, e, _⟩ := T.obj _ _ st b hb; ⟨o, e⟩
  have old : ∀ b o, s2.heap.get? b = some o → h1.get? b = some o := fun b o e => by
    refine (hsb.2 b ?_).trans (Heap.get?_push_of_some _ (hP ▸ Heap.get?_push_of_some _ e))
    rw [hC]; exact Nat.ne_of_lt (Nat.lt_succ_of_lt (Heap.lt_size e))
  have hacc : h1.get? s2.heap.objs.size = some { cls := .type "list", dict := none, data := .seq ([] : List Value).toArray } :=
    (hsb.2 _ hDC).trans (Heap.get?_push_of_some _ (hP ▸ Heap.get?_push_size _ rfl))
  have bok : (blk X N sc cl P2.objs.size fp s2 H2).Ok := blk_ok I hb c1 c2 hf fpo hCle
  have frD : ∀ {b : Addr}, s2.heap.objs.size ≤ b → b ∉ frs X.stack := fun hb hz => by
    rcases List.mem_cons.mp (I.stkSub _ hz) with z | z
    · exact absurd (z ▸ hb) (Nat.not_le.mpr I.lt)
    · exact I.nofs hb z
  have cellD : ∀ x c, cl.lookup x = some c → c < s2.heap.objs.size := fun x c e => by
    obtain ⟨v, q⟩ := I.cell x c (c1 x c e)
    exact q.lt
  -- the start
  have I0 : Inv (blk X N sc cl P2.objs.size fp s2 H2) [(s2.heap.objs.size, { cls := .type "list", dict := none, data := .seq ([] : List Value).toArray })] (lift ix σ) H2 { s2 with heap := h1, toks := s2.toks + ([] : List (Str × Value)).length } := by
    refine ⟨bok, rfl, I.bare, Un.kept old, ⟨_, hns, fun i x v e1 e2 e3 => ?_⟩, fun x c e => ?_, I.hok.fresh hCle, fun x c e => I.freeC x c (c1 x c e), fun p hp => ?_, I.hok.kept old, ?_⟩
    · obtain ⟨k, q1, q2⟩ := lift_at e2
      obtain ⟨y, z1, z2, z3⟩ := ixOk_at i k hi q1
      have e1' : N[i]? = some x := e1
      rw [e1'] at z1
      cases z1
      have hin : (x, NameKind.free) ∈ sc.names := PySem.mem_of_lookup z3
      obtain ⟨c, hcl⟩ := c2 x hin
      have okind : X.env.scope.names.lookup x = some .cell ∨ X.env.scope.names.lookup x = some .free := by
        have := List.all_eq_true.mp hn _ hin
        simp only [Bool.and_eq_true] at this
        simpa using this.2
      obtain ⟨m, hm, hl⟩ := I.loc
      obtain ⟨u, r, l⟩ := hl k x v z2 q2 (by rcases okind with z | z; exact .inr (.inl z); exact .inr (.inr z))
      refine ⟨u, r, .inr ⟨relab_free z3, c, hcl, ?_⟩⟩
      rcases l with ⟨lk, _⟩ | ⟨_, c', hc', z⟩
      · have lk' : X.env.scope.names.lookup x = some .local := lk
        rcases okind with q | q <;> rw [q] at lk' <;> cases lk'
      · rw [c1 x c hcl] at hc'
        cases hc'
        obtain ⟨oc, ho, hd⟩ := z
        exact ⟨oc, old _ _ ho, hd⟩
    · obtain ⟨v, oc, ho, hd⟩ := I.cell x c (c1 x c e)
      exact ⟨v, oc, old _ _ ho, hd⟩
    · have hp' : p = (s2.heap.objs.size, { cls := .type "list", dict := none, data := .seq ([] : List Value).toArray }) := by
        rcases List.mem_append.mp hp with z | z
        · exact absurd (show p ∈ ([] : List (Addr × Obj)) from z) (by simp)
        · simpa using z
      subst hp'
      exact ⟨hacc, I.fresh, hDC, frD (Nat.le_refl _), fun v z => by cases z⟩
    · show (lift ix σ).length = N.length
      unfold lift
      rw [List.length_map]
      exact ixOk_len hi
  have stat : ∀ {o : Obj} {H' : Hp}, (∀ b ∈ fp, H' b = none) → ∀ b ∈ fp, FpOk (blk X N sc cl P2.objs.size fp s2 H2) [(s2.heap.objs.size, o)] H' b := fun {o H'} hz b hb => by
    obtain ⟨_, g2, g3, g4, g5, g6⟩ := hf b hb
    obtain ⟨ob, eb⟩ := fpo b hb
    have lb := Heap.lt_size eb
    refine ⟨hz b hb, ?_, ?_, .inl hb, fun x c e => g5 x c (c1 x c e), fun p hp => ?_⟩
    · show b ≠ P2.objs.size
      rw [hC]; exact Nat.ne_of_lt (Nat.lt_succ_of_lt lb)
    · intro hz
      rcases List.mem_cons.mp (I.stkSub b hz) with z | z
      · exact g2 z
      · exact g3 z
    · have hp' : p = (s2.heap.objs.size, o) := by
        rcases List.mem_append.mp hp with z | z
        · exact absurd (show p ∈ ([] : List (Addr × Obj)) from z) (by simp)
        · simpa using z
      subst hp'
      show s2.heap.objs.size ≠ b
      exact Nat.ne_of_gt lb
  -- the loop
  have loop : ∀ s4 : Shared, s4 = { s2 with heap := h1, toks := s2.toks + ([] : List (Str × Value)).length } →
      codeAny (model X.prog X.w) X.A (.compLoop (.ListComp el [⟨tg, src, ifs, 0⟩] sc pos) 0 (.ref it) (.ref s2.heap.objs.size) (compEnvC sc cl P2.objs.size X.env)) (RR (.ref s2.heap.objs.size) P2.objs.size) s4 := by
    rintro s4 rfl
    refine cloop (fun n s' => ∃ (i : Nat) (τ : St) (ys : List V) (its : List Value) (k : Nat) (H' : Hp), Vals ys its ∧ ys.length ≤ sizeLine ∧
        Inv (blk X N sc cl P2.objs.size fp s2 H2) [(s2.heap.objs.size, { cls := .type "list", data := .seq its.toArray k })] τ H' s' ∧ tn i s'.heap ∧ (∀ b ∈ fp, H' b = none) ∧ W i n τ ys H') ?_ m0
      ⟨0, _, [], [], 0, H2, .nil, Nat.zero_le _, I0, T.keep _ _ _ st fun b _ o e => old b o e, fun b hb => (hf b hb).1, w0⟩
    rintro n s5 ⟨i, τ, ys, its, k, H5, rv, hz, I5, st5, fr5, w5⟩
    rcases turn i n τ ys H5 w5 with ⟨stop, fin⟩ | ⟨go, step⟩
    · refine thn (T.done (blk X N sc cl P2.objs.size fp s2 H2) rfl rfl rfl hc i _ s5 τ H5 (fun _ _ => False) I5 (stat fr5) st5 stop) fun r s6 ⟨hr, I6⟩ => ?_
      subst hr
      obtain ⟨m, hns6, _⟩ := I6.loc
      obtain ⟨gD, fD, _, _, _⟩ := I6.pin (s2.heap.objs.size, { cls := .type "list", data := .seq its.toArray k }) (List.mem_append_right _ (by simp))
      have fD' : H5 s2.heap.objs.size = none := fD
      refine hRR _ _ s6 ys H5 fD' ⟨m, hns6⟩ ?_ (I.fpOk hCle ?_) fin
      · refine I.call' (ch := fp) I6.os (Un.grow I6.base (Nat.le_refl _) I.fresh) (HOk.grow I6.hok fD' ⟨hz, its, k, rv, gD⟩) I6.bare fun b hb => ?_
        obtain ⟨_, g2, _, g4, g5, g6⟩ := hf b hb
        exact ⟨g4, g2, g5, g6⟩
      · rw [upd_ne (Ne.symm hDC)]
        exact I6.free
    · refine thn (T.item (blk X N sc cl P2.objs.size fp s2 H2) rfl rfl rfl hc i _ s5 τ H5 (fun _ _ => False) I5 (stat fr5) st5 go) fun r s6 ⟨u, hr, h6⟩ => ?_
      subst hr
      refine thn h6 fun _ s7 ⟨x, H7, I7, r7, y7, st7, fr7⟩ => ?_
      have I7' := I7.pinned (stat fr7) (T.obj _ _ st7)
      refine thn (hg _ _ _ s7 τ H7 x u _ I7' r7 (step x H7 y7)) fun _ s8 ⟨τ8, H8, I8, q8⟩ => ?_
      refine thn (hfs _ _ _ s8 τ8 H8 _ I8 q8) fun ok s9 ⟨H9, I9, q9⟩ => ?_
      -- what the pins say behind the turn
      have tail : ∀ {s' : Shared} {τ' : St} {H' : Hp}, Inv (blk X N sc cl P2.objs.size fp s2 H2) ([(s2.heap.objs.size, { cls := .type "list", data := .seq its.toArray k })] ++ pinsAt fp s7.heap) τ' H' s' →
          (s'.heap.get? s2.heap.objs.size = some { cls := .type "list", data := .seq its.toArray k } ∧ H' s2.heap.objs.size = none) ∧ (∀ b ∈ fp, ∀ o, s7.heap.get? b = some o → s'.heap.get? b = some o) ∧ ∀ b ∈ fp, H' b = none := fun {s' τ' H'} I' => by
        refine ⟨?_, fun b hb o e => (I'.pin (b, o) (List.mem_append_right _ (List.mem_append_right _ (mem_pinsAt hb e)))).1, fun b hb => ?_⟩
        · obtain ⟨a1, a2, _⟩ := I'.pin (s2.heap.objs.size, { cls := .type "list", data := .seq its.toArray k }) (List.mem_append_right _ (List.mem_append_left _ (by simp)))
          exact ⟨a1, a2⟩
        · obtain ⟨o, e, _⟩ := T.obj _ _ st7 b hb
          exact (I'.pin (b, o) (List.mem_append_right _ (List.mem_append_right _ (mem_pinsAt hb e)))).2.1
      cases ok with
      | false =>
        obtain ⟨m', hm, w9⟩ := q9
        obtain ⟨_, k2, k3⟩ := tail I9
        exact ⟨m', hm, i + 1, τ8, ys, its, k, H9, rv, hz, I9.unpinned, T.keep _ _ _ st7 k2, k3, w9⟩
      | true =>
        refine thn (he _ _ _ s9 τ8 H9 _ I9 q9) fun v s10 ⟨y, H10, I10, r10, hl, m', hm, w10⟩ => ?_
        obtain ⟨⟨gD, fD⟩, k2, k3⟩ := tail I10
        have hlen := rv.length
        refine call_meets F.slot_list_append ⟨_, gD, rfl⟩ F.entry_list_append (F.args_list_append_2 _ _) (PySem.list_append s2.heap.objs.size its.toArray k v (by rw [List.size_toArray]; omega)) ⟨gD, ?_⟩
        obtain ⟨k', q⟩ : ∃ k', (s10.heap.update s2.heap.objs.size (Obj.mapSeq (·.push v))).get? s2.heap.objs.size = some { cls := .type "list", data := .seq (its ++ [v]).toArray k' } := by
          have q := PySem.IsL.update gD (·.push v)
          rw [show (its.toArray.push v) = (its ++ [v]).toArray from by simp] at q
          exact ⟨_, q⟩
        have other : ∀ b o, b ≠ s2.heap.objs.size → s10.heap.get? b = some o → (s10.heap.update s2.heap.objs.size (Obj.mapSeq (·.push v))).get? b = some o := fun b o hb e => (Heap.get?_update_other s10.heap _ (Ne.symm hb)).trans e
        have Ia : Inv (blk X N sc cl P2.objs.size fp s2 H2) [] τ8 H10 { s10 with heap := s10.heap.update s2.heap.objs.size (Obj.mapSeq (·.push v)), toks := s10.toks } :=
          (I10.pins_of (pins' := []) fun p hp => nomatch hp).turned other fD hDC (.inr (Nat.le_refl _)) (fun x c e => Nat.ne_of_lt (cellD x c e)) fun p hp => absurd (show p ∈ ([] : List (Addr × Obj)) from hp) (by simp)
        refine ⟨m', hm, i + 1, τ8, ys ++ [y], its ++ [v], k', H10, rv.append (.cons r10 .nil), by rw [List.length_append, List.length_singleton]; omega, ?_, T.keep _ _ _ st7 fun b hb o e => ?_, k3, w10⟩
        · refine Ia.pins_of fun p hp => ?_
          have hp' := List.mem_singleton.mp hp
          subst hp'
          exact ⟨q, fD, hDC, frD (Nat.le_refl _), fun v z => by cases z⟩
        · obtain ⟨ob, eb⟩ := fpo b hb
          exact other b o (Nat.ne_of_lt (Heap.lt_size eb)) (k2 b hb o e)
  exact codeAny_compStart_list (loop _ rfl) (T.self X.A 0 _ _ _ (T.keep _ _ _ st fun b _ o e => old b o e) (loop _ rfl))
end

section
variable {X : Cx} {N : List Str} {ix : List (Option Nat)} {sc : Scope} {el tg src : Expr} {ifs : List Expr} {wi : TI} {g : TG} {tf : TT} {te : TE} {pos : Pos}
theorem Inv.clos {pins : List (Addr × Obj)} {σ : St} {H : Hp} {s : Shared} (I : Inv X pins σ H s) (hb : blkOk X.env.scope X.N N ix sc = true) :
    ∃ cl : List (Str × Addr), closureFor sc X.env = pure cl ∧ (∀ x c, cl.lookup x = some c → X.env.cells.lookup x = some c) ∧ ∀ x, (x, NameKind.free) ∈ sc.names → ∃ c, cl.lookup x = some c := by
  refine clos_ok fun y hy hf => I.ok.has y.1 ?_
  unfold blkOk at hb
  simp only [Bool.and_eq_true] at hb
  have := List.all_eq_true.mp hb.1.2 y hy
  simp only [Bool.and_eq_true] at this
  have h2 := this.2
  rw [hf] at h2
  have h3 : X.env.scope.names.lookup y.1 = some .cell ∨ X.env.scope.names.lookup y.1 = some .free := by simpa using h2
  exact h3
theorem blk_names (hb : blkOk X.env.scope X.N N ix sc = true) : sc.kind = .function ∧ ∀ y ∈ sc.names, y.2 = .local → sc.names.lookup y.1 = some .local := by
  unfold blkOk at hb
  simp only [Bool.and_eq_true] at hb
  refine ⟨eq_of_beq hb.1.1, fun y hy hl => ?_⟩
  have := List.all_eq_true.mp hb.1.2 y hy
  simp only [Bool.and_eq_true] at this
  have h2 := this.1.2
  rw [hl] at h2
  simpa using h2
theorem pe_comp (ix : List (Option Nat)) (hc : X.calm = true) (hb : blkOk X.env.scope X.N N ix sc = true) (hi : PI X tg src wi)
    (hg : ∀ cl C fp s H, PG (blk X N sc cl C fp s H) tg g) (hf : ∀ cl C fp s H, PF (blk X N sc cl C fp s H) ifs tf) (he : ∀ cl C fp s H, PE (blk X N sc cl C fp s H) el te)
    (hs : ∀ x, foldedSetIterable src X.env x = pure x := by intro _; rfl) : PE X (.ListComp el [⟨tg, src, ifs, 0⟩] sc pos) (tComp ix wi g tf te) := by
  intro pins s σ H Q I h
  obtain ⟨cl, hcl, c1, c2⟩ := I.clos hb
  obtain ⟨hk, hn⟩ := blk_names hb
  rw [eval_ListComp]
  refine wpAny_comprehension_free (use := none) rfl hs hcl hk hn (thn (hi pins s σ H _ I h) fun xv s1 h1 => thn h1 fun itv s2 h2 => ?_)
  obtain ⟨it, fp, tn, J, H2, rfl, I2, T, st, f2, hW⟩ := h2
  refine comp_core (RR := fun acc C => compPost (model X.prog X.w) X.A X.xe none (EP X pins σ Q) acc C) I2 hc hb c1 c2 T st f2 (fun C fp => hg cl C fp s2 H2) (fun C fp => hf cl C fp s2 H2) (fun C fp => he cl C fp s2 H2) hW ?_
  intro D C s' ys H' hD ⟨m, hm⟩ I' fC fin
  refine ⟨m, hm, fun h' hs' => ⟨.ref D, _, ?_, rfl, fin D hD⟩⟩
  obtain ⟨g1, g2, _, g4, g5, g6⟩ := fC
  exact I'.turned (t' := s'.toks) (fun b o hb e => (hs'.2 b hb).trans e) g1 g2 g4 g5 g6
theorem ps_comp (ix : List (Option Nat)) {i : Nat} {x : Str} {pos' spos : Pos} (hN : X.N.Nodup) (hxi : X.N[i]? = some x) (hx : Loc X.env.scope x) (hc : X.calm = true) (hb : blkOk X.env.scope X.N N ix sc = true) (hi : PI X tg src wi)
    (hg : ∀ cl C fp s H, PG (blk X N sc cl C fp s H) tg g) (hf : ∀ cl C fp s H, PF (blk X N sc cl C fp s H) ifs tf) (he : ∀ cl C fp s H, PE (blk X N sc cl C fp s H) el te)
    (hsw : swapsWith (.ListComp el [⟨tg, src, ifs, 0⟩] sc pos) (some (.Name x pos')) spos.line X.env = pure true := by rfl)
    (hfn : X.fn x = true ∨ X.env.scope.names.lookup x = some .local := by first | exact .inl rfl | exact .inr rfl | assumption)
    (hs : ∀ x, foldedSetIterable src X.env x = pure x := by intro _; rfl) : PS X (.Assign [.Name x pos'] (.ListComp el [⟨tg, src, ifs, 0⟩] sc pos) spos) (tAsg (tComp ix wi g tf te) (gName i)) := by
  intro pins s σ H D0 I h
  obtain ⟨cl, hcl, c1, c2⟩ := I.clos hb
  obtain ⟨hk, hn⟩ := blk_names hb
  rw [exec_Assign_Name_used _ _ _ _ hsw]
  refine wpAny_bind (wpAny_standAt (wpAny_bind ?_))
  show wpAny _ X.A (do let _ ← comprehension (.ListComp el [⟨tg, src, ifs, 0⟩] sc pos) sc X.env _ (newList []) false (eval src X.env) (some (assign (.Name x pos') X.env))) _ _ s
  refine wpAny_bind (thn (wpAny_comprehension_free (use := some (assign (.Name x pos') X.env)) (Q := fun _ s' => SP X pins D0 .next s') rfl hs hcl hk hn (thn (hi pins s σ H _ I h) fun xv s1 h1 => thn h1 fun itv s2 h2 => ?_)) fun _ s' hq => wpAny_pure (wpAny_pure hq))
  obtain ⟨it, fp, tn, J, H2, rfl, I2, T, st, f2, hW⟩ := h2
  refine comp_core (RR := fun acc C => compPost (model X.prog X.w) X.A X.xe (some (assign (.Name x pos') X.env)) (fun _ s' => SP X pins D0 .next s') acc C) I2 hc hb c1 c2 T st f2 (fun C fp => hg cl C fp s2 H2) (fun C fp => hf cl C fp s2 H2) (fun C fp => he cl C fp s2 H2) hW ?_
  intro D C s' ys H' hD ⟨m, hm⟩ I' fC fin
  obtain ⟨g1, g2, _, g4, g5, g6⟩ := fC
  show wpAny _ X.A (assign (.Name x pos') X.env (.ref D)) _ _ _
  refine wpAny_assign_Name (store_ok2 (v := .ref D) I' hN hxi hx rfl (fun s'' I'' ⟨a, sb, ha⟩ => ?_) hfn)
  have hCa : C ≠ a := by
    rcases ha with z | z
    · rw [z]; exact g2
    · exact fun e => g5 x a z e.symm
  refine ⟨m, hm.sameBut sb hCa, fun h' hs' => ⟨_, _, I''.turned (t' := s''.toks) (fun b o hb e => (hs'.2 b hb).trans e) g1 g2 g4 g5 g6, fin D hD⟩⟩
end

theorem comp_range {lo : Int} {n : Nat} {tf : TT} {te : TE} {τ0 : St} {H : Hp} {Fin : List V → Hp → Prop} (f : Nat → V) (hn : n ≤ sizeLine)
    (hte : ∀ i H' Q, i < n → Same H H' → (∀ H'', Same H' H'' → Q (f i) H'') → tf (τ0.set 0 (some (.int (lo + i)))) H' fun b H3 => b = true ∧ te (τ0.set 0 (some (.int (lo + i)))) H3 Q)
    (mono : ∀ τ H Q Q', (∀ b H1, Q b H1 → Q' b H1) → tf τ H Q → tf τ H Q')
    (hfin : ∀ H', Same H H' → Fin ((List.range n).map f) H') : CompW (gName 0) tf te (Itr lo n) τ0 H Fin := by
  refine ⟨fun i m τ ys H' => m = n - i ∧ i ≤ n ∧ ys = (List.range i).map f ∧ Same H H' ∧ ∃ v, τ = τ0.set 0 v ∨ τ = τ0, ⟨n, rfl, Nat.zero_le _, rfl, Same.refl _, none, .inr rfl⟩, ?_⟩
  rintro i m τ ys H' ⟨rfl, hi, rfl, sm, v, hτ⟩
  by_cases hlt : i < n
  · refine .inr ⟨hlt, fun x H'' y => ?_⟩
    obtain ⟨e, y⟩ := y
    subst e y
    have e2 : τ.set 0 (some (V.int (lo + i))) = τ0.set 0 (some (V.int (lo + i))) := by
      rcases hτ with rfl | rfl
      · rw [List.set_set]
      · rfl
    show tf (τ.set 0 (some (V.int (lo + i)))) H'' _
    rw [e2]
    refine mono _ _ _ _ ?_ (hte i H'' (fun y H4 => ((List.range i).map f).length < sizeLine ∧ ∃ m', m' < n - i ∧ (m' = n - (i + 1) ∧ i + 1 ≤ n ∧ (List.range i).map f ++ [y] = (List.range (i + 1)).map f ∧ Same H H4 ∧ ∃ v, τ0.set 0 (some (V.int (lo + i))) = τ0.set 0 v ∨ τ0.set 0 (some (V.int (lo + i))) = τ0)) hlt sm fun H4 s4 => ?_)
    · rintro b H1 ⟨rfl, q⟩
      rw [if_pos rfl]
      exact q
    · refine ⟨by rw [List.length_map, List.length_range]; omega, n - (i + 1), by omega, rfl, hlt, by rw [List.range_succ, List.map_append]; rfl, sm.trans s4, _, .inl rfl⟩
  · have e : i = n := by omega
    subst e
    exact .inl ⟨Nat.le_refl _, hfin H' sm⟩
theorem comp_list {K : PySem.W.Frag} {a : Addr} {xs : List V} {te : TE} {τ0 : St} {H : Hp} {Fin : List V → Hp → Prop} (f : V → V) (hn : xs.length ≤ sizeLine) (hl : SqL K H a xs)
    (hte : ∀ x H' Q, x ∈ xs → Same H H' → (∀ H'', Same H' H'' → Q (f x) H'') → te (τ0.set 0 (some x)) H' Q)
    (hfin : ∀ H', Same H H' → Fin (xs.map f) H') : CompW (gName 0) tYes te (Itl K a) τ0 H Fin := by
  refine ⟨fun i m τ ys H' => m = xs.length - i ∧ i ≤ xs.length ∧ ys = (xs.take i).map f ∧ Same H H' ∧ ∃ v, τ = τ0.set 0 v ∨ τ = τ0, ⟨xs.length, rfl, Nat.zero_le _, rfl, Same.refl _, none, .inr rfl⟩, ?_⟩
  rintro i m τ ys H' ⟨rfl, hi, rfl, sm, v, hτ⟩
  by_cases hlt : i < xs.length
  · refine .inr ⟨⟨xs, xs[i], sm.seq hl, by simp [hlt]⟩, fun x H'' y => ?_⟩
    obtain ⟨e, y⟩ := y
    subst e
    have hx := y xs (sm.seq hl)
    have e2 : τ.set 0 (some x) = τ0.set 0 (some x) := by
      rcases hτ with rfl | rfl
      · rw [List.set_set]
      · rfl
    unfold gName tYes
    rw [e2]
    dsimp only
    rw [if_pos rfl]
    refine hte x H'' _ (List.mem_of_getElem? hx) sm fun H4 s4 => ?_
    refine ⟨by rw [List.length_map, List.length_take]; omega, xs.length - (i + 1), by omega, rfl, hlt, ?_, sm.trans s4, _, .inl rfl⟩
    rw [List.take_add_one, hx, List.map_append]
    rfl
  · have e : i = xs.length := by omega
    subst e
    exact .inl ⟨⟨xs, sm.seq hl, Nat.le_refl _⟩, by have := hfin H' sm; rw [List.take_length]; exact this⟩
end L2

set_option maxHeartbeats 4000000
namespace L2
open PySem PySem.Spec PyProof.Rows

theorem ite2d {c A B : Prop} [Decidable c] (h1 : c → A) (h2 : ¬ c → B) : if decide c = true then A else B := by
  by_cases h : c
  · rw [if_pos (decide_eq_true h)]; exact h1 h
  · rw [if_neg (by simpa using h)]; exact h2 h
theorem iteVi {i j : Int} {A B : Prop} (h1 : i = j → A) (h2 : ¬ i = j → B) : if decide (V.int i = V.int j) = true then A else B :=
  ite2d (fun h => h1 (V.int.inj h)) fun h => h2 fun e => h (congrArg V.int e)
theorem Same.new {H : Hp} {p : Addr} {o : HO} (h : H p = none) : Same H (upd H p o) := fun b u e => by
  rw [upd_ne (ne_of_none e h)]; exact e
theorem Same.put {H H' : Hp} {p : Addr} {o : HO} (s : Same H H') (h : H' p = none) : Same H (upd H' p o) := s.trans (Same.new h)
theorem Same.over {H H' : Hp} {p : Addr} {o : HO} (s : Same H H') (h : H p = none) : Same H (upd H' p o) := fun b u e => by
  rw [upd_ne (ne_of_none e h)]; exact s b u e
theorem Same.lst {H H' : Hp} {p : Addr} {xs : List V} (s : Same H H') (h : H p = some (.lst xs)) : H' p = some (.lst xs) := s _ _ h

structure FnAt (K : PySem.W.Frag) (mg : Str → Option Value) (x : Str) (st : Stmt) (ps : List Str) (f : Addr) (fd : FuncData) : Prop where
  F : Fun K x x st f fd
  b : Binds K fd ps []
  m : mg x = some (.ref f)
section
variable {X : Cx} {k : Nat} {f : Addr} {fd : FuncData} {ps : List Str} {sp : Sp} {x : Str} {st : Stmt} {p pos : Pos} {e : Expr} {es : List Expr} {t : TA}
theorem pcall (A : FnAt X.K X.mg x st ps f fd) (G : FnOk X.prog X.w X.K X.mg X.base CX0 k f fd ps sp) (hr : Room k X.A) (ha : PA X (e :: es) t) (hg : Gl X x := by rfl)
    (hdb : (x == ("__debug__" : Str)) = false := by decide) (he : starEach (e :: es) X.env = (false, eval e X.env) :: starEach es X.env := by rfl) (hpl : (backTo pos (starEach es X.env)).any (·.1) = false := by rfl) :
    PE X (.Call (.Name x p) (e :: es) [] pos) (tCall sp [] E0 t) := pe_call G hr hg A.m A.F.kp A.b .nil pass0 ha hdb he hpl
end
noncomputable def Pur (v : V) (H : Hp) (Q : VK) : Prop := ∀ H', Same H H' → Q v H'
end L2

namespace Mine
open PySem PySem.Spec PyProof.Rows L2
noncomputable def spCell (K : PySem.W.Frag) : Sp := fun vs H Q _ => ∃ (a : Addr) (ns : List Int) (k : Int), vs = [.ref a, .int k] ∧ SqL K H a (ns.map V.int) ∧ 0 ≤ k ∧ Pur (.int (cell ns k)) H Q
noncomputable def spSub : Sp := fun vs H Q _ => ∃ (c j : Int), vs = [.int c, .int j] ∧ 0 ≤ j ∧ j ≤ 1000 ∧ Pur (.int (sub c j)) H Q
noncomputable def spNumber : Sp := fun vs H Q _ => ∃ (c far : Int), vs = [.int c, .int far] ∧ 0 < far ∧ Pur (.int (number c far)) H Q
noncomputable def spPick : Sp := fun vs H Q _ => ∃ (c k m : Int), vs = [.int c, .int k, .int m] ∧ 0 ≤ k ∧ k < 40 ∧ 0 < m ∧ Pur (.int (pick c k m)) H Q
noncomputable def spName : Sp := fun vs H Q _ => ∃ (c : Int), vs = [.int c] ∧ Pur (.str (name c)) H Q
end Mine

set_option maxHeartbeats 4000000
namespace L2
open PySem PySem.Spec PyProof.Rows

section
variable {X : Cx}
noncomputable def rSlS : V → Option Int → Option Int → Hp → VK → Prop := fun x lo hi H Q => ∃ z, x = .str z ∧ z.length ≤ sizeLine ∧ Q (.str (Txt.slice z lo hi)) H
theorem part_of {v : Value} {o : Option Int} (p : IsPart v o) : ∃ l : Option (Int × Tok), v = partValue l ∧ o = l.map (·.1) := by
  cases p with
  | none => exact ⟨none, rfl, rfl⟩
  | int i t => exact ⟨some (i, t), rfl, rfl⟩
theorem sl_str : SlR X rSlS := by
  intro pins s σ H x v vl vu lo hi sl Q I rx hs pl pu h
  obtain ⟨z, rfl, hz, q⟩ := h
  obtain ⟨t, rfl⟩ := rx
  obtain ⟨l, rfl, rfl⟩ := part_of pl
  obtain ⟨u, rfl, rfl⟩ := part_of pu
  obtain ⟨os, h1, h2, h3⟩ := hs
  refine ⟨"str", _, F.slot_str_getitem.lookup, typeIs_str _ _ _, ?_⟩
  exact wpAny_getItem_str_slice (l := l) (u := u) (st := none) ⟨os, h1, h2, h3⟩ rfl (post_val_or_str ⟨Nat.le_trans (Txt.slice_le z _ _) hz, fun t' k => ⟨.str _, H, I.tok k, ⟨t', rfl⟩, q⟩⟩)

noncomputable def Its (z : Str) : It := ⟨fun i _ => i < z.cps.size, fun i H x H' => H' = H ∧ ∃ c, z.cps.toList[i]? = some c ∧ x = .str ⟨#[c]⟩, fun i _ => z.cps.size ≤ i⟩
theorem turn_str {P : Program} {w : World} {K : PySem.W.Frag} {tg : Expr} (it : Addr) (z : Str) (t : Tok) (ty : String)
    (hI : ∀ (A : Around) (i c : Nat) (s : Shared) (Q : Option Value → Shared → Prop) (E : Value → Shared → Prop), s.heap.IsStrIter it ty z t i → z.cps[i]? = some c → (∀ h', h'.IsStrIter it ty z t (i + 1) → Heap.SameBut it s.heap h' → Q (some (.str ⟨#[c]⟩ s.toks)) { s with heap := h', toks := s.toks + 1 }) → wpAny (model P w) A (pyNext (.ref it)) Q E s)
    (hE : ∀ (A : Around) (i : Nat) (s : Shared) (Q : Option Value → Shared → Prop) (E : Value → Shared → Prop), HS A s.heap → s.heap.IsStrIter it ty z t i → z.cps[i]? = none → (∀ d, A.handled = some (.ref d) → d ≠ it) → (∀ h', Heap.ExtBut it s.heap h' → Q none { s with heap := h' }) → wpAny (model P w) A (pyNext (.ref it)) Q E s)
    (hn : ["enumerate", "zip", "dict_itemiterator", "dict_reverseitemiterator", "odict_iterator", "itertools.zip_longest", "itertools.pairwise"].contains ty = false)
    (hself : ∀ (A : Around) (i : Nat) (s : Shared) (Q : Value → Shared → Prop) (E : Value → Shared → Prop), s.heap.IsStrIter it ty z t i → Q (.ref it) s → wpAny (model P w) A (pyIter (.ref it)) Q E s) :
    Turn P w K tg (Its z) [it] it (fun i h => i ≤ z.cps.size ∧ h.IsStrIter it ty z t i) where
  mem := by simp
  obj := fun i h st b hb => by
    have e : b = it := by simpa using hb
    subst e
    obtain ⟨_, o, e, c, d⟩ := st
    exact ⟨o, e, fun v z => by rw [d] at z; cases z⟩
  keep := fun i h h' st k => by
    obtain ⟨hi, o, e, r⟩ := st
    exact ⟨hi, o, k it (by simp) o e, r⟩
  item := by
    intro X hP hw hK hc i pins s σ H E I hf st hg
    subst hP hw hK
    obtain ⟨f0, f1, f2, f3, f4, f5⟩ := hf it (by simp)
    have hx : z.cps[i]? = some (z.cps[i]'hg) := Array.getElem?_eq_getElem hg
    generalize z.cps[i]'hg = c at hx
    refine hI X.A i c s _ _ st.2 hx fun h' st' sb => ?_
    have I1 : Inv X pins σ H { s with heap := h', toks := s.toks + 1 } := I.turned (fun b o hb e => (sb.2 b hb).trans e) f0 f1 f3 f4 f5
    obtain ⟨o, e, hcl, d⟩ := id st'
    exact ⟨_, rfl, go_of (s := { s with heap := h', toks := s.toks + 1 }) e hcl d hn ⟨.str ⟨#[c]⟩, H, I1, ⟨s.toks, rfl⟩, ⟨rfl, c, by simpa using hx, rfl⟩, ⟨hg, st'⟩, fun b hb => (hf b hb).1⟩⟩
  done := by
    intro X hP hw hK hc i pins s σ H E I hf st hg
    subst hP hw hK
    obtain ⟨f0, f1, f2, f3, f4, f5⟩ := hf it (by simp)
    obtain ⟨hi, st⟩ := st
    have e : i = z.cps.size := Nat.le_antisymm hi hg
    subst e
    exact hE X.A _ s _ _ (I.hs hc) st (by simp) (I.hne hc f3) fun h' eb => ⟨rfl, I.turned (t' := s.toks) (fun b o hb e => eb b o hb e) f0 f1 f3 f4 f5⟩
  self := fun A i s Q E st h => hself A i s Q E st.2 h
noncomputable def iStr (tl : TE) : TI := fun σ H R => tl σ H fun x H1 => ∃ z, x = .str z ∧ R (Its z) H1
theorem pi_str {tg l : Expr} {tl : TE} (hl : PE X l tl) : PI X tg l (iStr tl) := by
  intro pins s σ H R I h
  refine thn (hl pins s σ H _ I h) fun v s1 ⟨x, H1, I1, r1, q1⟩ => ?_
  obtain ⟨z, rfl, q⟩ := q1
  obtain ⟨t, rfl⟩ := r1
  have fin : ∀ (o : Obj) (b : Addr), b ∈ [s1.heap.objs.size] → FpOk X pins H1 b := fun o b hb => by
    have e : b = s1.heap.objs.size := by simpa using hb
    subst e
    exact I1.fpOk (Nat.le_refl _) (I1.hok.fresh (Nat.le_refl _))
  cases ha : z.cps.all (· < 128)
  · refine wpAny_pyIter_wide ha ?_
    exact ⟨s1.heap.objs.size, [s1.heap.objs.size], _, _, H1, rfl, I1.kept (t' := s1.toks) fun b o e => Heap.get?_push_of_some _ e,
      turn_str _ z t "str_iterator" (fun A i c s Q E st hx hq => wpAny_pyNext_wide_item st hx hq) (fun A i s Q E hh st hx hne hq => end_wide hh st hx hne hq) (by decide) (fun A i s Q E st h => wpAny_pyIter_striter_wide st h), ⟨Nat.zero_le _, _, Heap.get?_push_size _ rfl, rfl, rfl⟩, fin default, q⟩
  · refine wpAny_pyIter_ascii ha ?_
    exact ⟨s1.heap.objs.size, [s1.heap.objs.size], _, _, H1, rfl, I1.kept (t' := s1.toks) fun b o e => Heap.get?_push_of_some _ e,
      turn_str _ z t "str_ascii_iterator" (fun A i c s Q E st hx hq => wpAny_pyNext_ascii_item st hx hq) (fun A i s Q E hh st hx hne hq => end_ascii hh st hx hne hq) (by decide) (fun A i s Q E st h => wpAny_pyIter_striter_ascii st h), ⟨Nat.zero_le _, _, Heap.get?_push_size _ rfl, rfl, rfl⟩, fin default, q⟩
theorem for_str {z : Str} {g : TG} {tb : TS} {D : Ends} {σ : St} {H : Hp} (Pv : Nat → St → Hp → Prop) (h0 : Pv 0 σ H)
    (hs : ∀ i c σ H, z.cps.toList[i]? = some c → Pv i σ H → g (.str ⟨#[c]⟩) σ H fun σ2 H2 => tb { D with nx := Pv (i + 1), ct := Pv (i + 1), bk := D.nx } σ2 H2) (hd : ∀ σ H, Pv z.cps.size σ H → D.nx σ H) :
    ∃ W : Nat → Nat → St → Hp → Prop, (∃ m, W 0 m σ H) ∧ ∀ i m σ H, W i m σ H →
      ((Its z).stop i H ∧ D.nx σ H) ∨ ((Its z).go i H ∧ ∃ N : St → Hp → Prop, (∀ σ' H', N σ' H' → ∃ m', m' < m ∧ W (i + 1) m' σ' H') ∧ ∀ x H', (Its z).yld i H x H' → g x σ H' fun σ2 H2 => tb { D with nx := N, ct := N, bk := D.nx } σ2 H2) := by
  refine ⟨fun i m σ H => m = z.cps.size - i ∧ i ≤ z.cps.size ∧ Pv i σ H, ⟨z.cps.size, by simp, Nat.zero_le _, h0⟩, ?_⟩
  rintro i m σ H ⟨rfl, hi, p⟩
  by_cases hlt : i < z.cps.size
  · refine .inr ⟨hlt, Pv (i + 1), fun σ' H' p' => ⟨z.cps.size - (i + 1), by omega, rfl, hlt, p'⟩, fun x H' y => ?_⟩
    obtain ⟨e, c, hc, y⟩ := y
    subst e y
    exact hs i c σ _ hc p
  · have e : i = z.cps.size := by omega
    subst e
    exact .inl ⟨Nat.le_refl _, hd σ H p⟩
theorem comp_str {z : Str} {te : TE} {τ0 : St} {H : Hp} {Fin : List V → Hp → Prop} (f : Nat → V) (hn : z.length ≤ sizeLine)
    (hte : ∀ c H' Q, c ∈ z.cps.toList → Same H H' → (∀ H'', Same H' H'' → Q (f c) H'') → te (τ0.set 0 (some (.str ⟨#[c]⟩))) H' Q)
    (hfin : ∀ H', Same H H' → Fin (z.cps.toList.map f) H') : CompW (gName 0) tYes te (Its z) τ0 H Fin := by
  have hz : z.cps.size = z.cps.toList.length := by simp
  have hn' : z.cps.toList.length ≤ sizeLine := by rw [← hz]; exact hn
  refine ⟨fun i m τ ys H' => m = z.cps.size - i ∧ i ≤ z.cps.size ∧ ys = (z.cps.toList.take i).map f ∧ Same H H' ∧ ∃ v, τ = τ0.set 0 v ∨ τ = τ0, ⟨z.cps.size, rfl, Nat.zero_le _, rfl, Same.refl _, none, .inr rfl⟩, ?_⟩
  rintro i m τ ys H' ⟨rfl, hi, rfl, sm, v, hτ⟩
  by_cases hlt : i < z.cps.size
  · refine .inr ⟨hlt, fun x H'' y => ?_⟩
    obtain ⟨e, c, hc, y⟩ := y
    subst e y
    have e2 : τ.set 0 (some (V.str ⟨#[c]⟩)) = τ0.set 0 (some (V.str ⟨#[c]⟩)) := by
      rcases hτ with rfl | rfl
      · rw [List.set_set]
      · rfl
    unfold gName tYes
    rw [e2]
    dsimp only
    rw [if_pos rfl]
    refine hte c H'' _ (List.mem_of_getElem? hc) sm fun H4 s4 => ?_
    refine ⟨by rw [List.length_map, List.length_take]; omega, z.cps.size - (i + 1), by omega, rfl, hlt, ?_, sm.trans s4, _, .inl rfl⟩
    rw [List.take_add_one, hc, List.map_append]
    rfl
  · have e : i = z.cps.size := by omega
    subst e
    exact .inl ⟨Nat.le_refl _, by have := hfin H' sm; rw [hz, List.take_length]; exact this⟩

theorem bls_at {bs : List Bool} : ∀ {us : List Value} {i : Nat} {v : Value}, Vals (bs.map V.bl) us → us[i]? = some v → v = .bool (bs.getD i false) := by
  induction bs with
  | nil => intro us i v r h; rw [List.map_nil] at r; cases r; simp at h
  | cons b bs ih =>
    intro us i v r h
    rw [List.map_cons] at r
    cases r with
    | cons r1 r2 =>
      cases i with
      | zero =>
        have r1' : _ = Value.bool b := r1
        simp at h
        rw [← h, r1']
        rfl
      | succ i => exact ih r2 (by simpa using h)
theorem range_all (bs : List Bool) : (List.range bs.length).all (fun i => bs.getD i false) = bs.all id := by
  have e : (List.range bs.length).map (fun i => bs.getD i false) = bs := by
    apply List.ext_getElem
    · simp
    · intro i h1 h2
      simp [List.getD_eq_getElem?_getD, h2]
  conv => rhs; rw [← e]
  rw [List.all_map]; rfl
noncomputable def rAll (K : PySem.W.Frag) (f : List Bool → Bool) : List V → Hp → VK → Prop := fun xs H Q => ∃ p bs, xs = [.ref p] ∧ SqL K H p (bs.map V.bl) ∧ Q (.bl (f bs)) H
theorem call_all (hc : X.calm = true) : CallR X (.builtin "all") (rAll X.K fun bs => bs.all id) := by
  intro pins s σ H xs us Q I r h
  obtain ⟨p, bs, rfl, hq, q⟩ := h
  obtain ⟨u, rfl, rx⟩ := vals1 r
  cases (show u = Value.ref p from rx)
  obtain ⟨its, rv, pl, hz⟩ := I.list hq
  have hlen := rv.length
  rw [List.length_map] at hlen
  have hne : p ≠ s.heap.objs.size := by
    obtain ⟨o, e, _⟩ := pl.isList
    exact Nat.ne_of_lt (Heap.lt_size e)
  refine call_all_walk (wpAny_pyIter_list pl.isList ?_)
  refine ⟨s.heap.objs.size, _, _, _, _, _, fun i => bs.getD i false, rfl, walks_list (A := X.A.in1) s.heap.objs.size p hne (I.hne hc (.inr I.sz)) its.toArray, ⟨⟨⟨_, Heap.get?_push_size _ rfl, rfl, rfl⟩, ?_⟩, HS.in1 ((I.hs hc).on fun b o e => Heap.get?_push_of_some _ e)⟩, fun i v s' Q' E' hP hQ => ?_, fun h' tk kk => ?_⟩
  · exact pl.isList.at fun o e => Heap.get?_push_of_some _ e
  · have e := bls_at rv (by simpa using hP)
    subst e
    exact wpAny_truthy_bool hQ
  · have e : (List.range its.toArray.size).all (fun i => bs.getD i false) = bs.all id := by rw [List.size_toArray, ← hlen]; exact range_all bs
    rw [e]
    refine ⟨.bl _, H, I.kept fun b o e => ?_, rfl, q⟩
    exact kk b o (fun z => absurd (Heap.lt_size e) (by rw [List.mem_singleton.mp z]; exact Nat.lt_irrefl _)) (Heap.get?_push_of_some _ e)
end
end L2

set_option maxHeartbeats 4000000
namespace L2
open PySem PySem.Spec PyProof.Rows
section
variable {X : Cx} {K : PySem.W.Frag}
variable {o e : Expr} {es : List Expr} {to : TE} {t : TA} {name : Str} {apos cpos : Pos} {T id : String} {r : V → List V → Hp → VK → Prop}
end
end L2

set_option maxHeartbeats 4000000
namespace L2
open PySem PySem.Spec PyProof.Rows
structure QS (X : Cx) (st : Stmt) (t : TS) : Prop where
  h : PS X st t
structure QSs (X : Cx) (st : List Stmt) (t : TS) : Prop where
  h : PSs X st t
section
variable {X : Cx} {st : Stmt} {rest : List Stmt} {t u : TS} {e : Expr} {te : TE} {pos : Pos}
theorem qss_nil : QSs X [] tNext := ⟨pss_nil⟩
theorem qss_cons (h1 : QS X st t) (h2 : QSs X rest u) : QSs X (st :: rest) (tSeq t u) := ⟨pss_cons h1.h h2.h⟩
theorem qss_one (h1 : QS X st t) : QSs X [st] t := ⟨pss_one h1.h⟩
theorem qs_expr (he : PE X e te) (hs : swapsWith e none pos.line X.env = pure false := by rfl) : QS X (.Expr e pos) (tDrop te) := ⟨ps_expr he hs⟩
theorem qs_ret (he : PE X e te) : QS X (.Return (some e) pos) (tRet te) := ⟨ps_ret he⟩
theorem qs_if {c : Expr} {a b : List Stmt} {tc : TT} (hc : PT X c tc) (ha : QSs X a t) (hb : QSs X b u) : QS X (.If c a b pos) (tIfS tc t u) := ⟨ps_if hc ha.h hb.h⟩
theorem qs_for {tg iter : Expr} {body : List Stmt} {wi : TI} {g : TG} {tb : TS} (hp : PassesOwn (model X.prog X.w) X.A X.env X.xe) (hc : X.calm = true) (hi : PI X tg iter wi) (hg : PG X tg g) (hb : QSs X body tb) (hs : ∀ x, foldedSetIterable iter X.env x = pure x := by intro _; rfl) : QS X (.For tg iter body [] pos) (tFor wi g tb) := ⟨ps_for hp hc hi hg hb.h hs⟩
theorem qs_asg {tg : Expr} {g : TG} (he : PE X e te) (hg : PG X tg g) (hs : swapsWithSole [tg] e pos.line X.env = pure false := by rfl) (hw : swappedStores [tg] e X.env = pure none := by rfl)
    (h1 : (assignEach [tg] X.env).map (·.2) = [assign tg X.env] := by rfl) : QS X (.Assign [tg] e pos) (tAsg te g) := ⟨ps_asg he hg hs hw h1⟩
theorem qs_set {i : Nat} {x : Str} {pos' : Pos} (hN : X.N.Nodup) (hi : X.N[i]? = some x) (hx : Loc X.env.scope x) (he : PE X e te) (hs : swapsWith e (some (.Name x pos')) pos.line X.env = pure false := by rfl) (hf : X.fn x = true ∨ X.env.scope.names.lookup x = some .local := by first | exact .inl rfl | exact .inr rfl | assumption) :
    QS X (.Assign [.Name x pos'] e pos) (tAsg te (gName i)) := ⟨ps_set hN hi hx he hs hf⟩
end
section
variable {X : Cx} {N : List Str} {sc : Scope} {el tg src : Expr} {ifs : List Expr} {wi : TI} {g : TG} {tf : TT} {te : TE} {pos : Pos}
theorem qs_comp (ix : List (Option Nat)) {i : Nat} {x : Str} {pos' spos : Pos} (hN : X.N.Nodup) (hxi : X.N[i]? = some x) (hx : Loc X.env.scope x) (hc : X.calm = true) (hb : blkOk X.env.scope X.N N ix sc = true) (hi : PI X tg src wi)
    (hg : ∀ cl C fp s H, PG (blk X N sc cl C fp s H) tg g) (hf : ∀ cl C fp s H, PF (blk X N sc cl C fp s H) ifs tf) (he : ∀ cl C fp s H, PE (blk X N sc cl C fp s H) el te)
    (hsw : swapsWith (.ListComp el [⟨tg, src, ifs, 0⟩] sc pos) (some (.Name x pos')) spos.line X.env = pure true := by rfl)
    (hfn : X.fn x = true ∨ X.env.scope.names.lookup x = some .local := by first | exact .inl rfl | exact .inr rfl | assumption)
    (hs : ∀ x, foldedSetIterable src X.env x = pure x := by intro _; rfl) : QS X (.Assign [.Name x pos'] (.ListComp el [⟨tg, src, ifs, 0⟩] sc pos) spos) (tAsg (tComp ix wi g tf te) (gName i)) :=
  ⟨ps_comp ix hN hxi hx hc hb hi hg hf he hsw hfn hs⟩
end
structure QA (X : Cx) (es : List Expr) (t : TA) : Prop where
  h : PA X es t
section
variable {X : Cx} {e : Expr} {es : List Expr} {te : TE} {t : TA} {pos : Pos}
theorem qa_nil : QA X [] tNil := ⟨pa_nil⟩
theorem qa_cons (ha : PE X e te) (hr : QA X es t) (hs : starEach (e :: es) X.env = (false, eval e X.env) :: starEach es X.env := by rfl) : QA X (e :: es) (tCons te t) := ⟨pa_cons ha hr.h hs⟩
end
structure QE (X : Cx) (e : Expr) (t : TE) : Prop where
  h : PE X e t
section
variable {X : Cx} {a b e : Expr} {ta tb te : TE} {es : List Expr} {t : TA} {pos : Pos}
theorem qe_lstQ (h : QA X es t) : QE X (.List es pos) (tLst t) := ⟨pe_lst h.h⟩
theorem qe_ix {r : R2} (hr : IxR X r) (ha : QE X a ta) (hb : PE X b tb) (hs : PlainIx b) : QE X (.Subscript a b pos) (tOp r ta tb) := ⟨pe_ix hr ha.h hb hs⟩
theorem qs_setQ {i : Nat} {x : Str} {pos' : Pos} (hN : X.N.Nodup) (hi : X.N[i]? = some x) (hx : Loc X.env.scope x) (he : QE X e te) (hs : swapsWith e (some (.Name x pos')) pos.line X.env = pure false := by rfl) (hf : X.fn x = true ∨ X.env.scope.names.lookup x = some .local := by first | exact .inl rfl | exact .inr rfl | assumption) :
    QS X (.Assign [.Name x pos'] e pos) (tAsg te (gName i)) := ⟨ps_set hN hi hx he.h hs hf⟩
end
end L2

set_option maxHeartbeats 4000000
namespace L2
open PySem PySem.Spec PyProof.Rows
section
variable {X : Cx} {x : Str} {pos : Pos}
theorem pgl_str {y : Str} (h : ∃ t, X.mg x = some (.str y t)) (hg : Gl X x := by rfl) (hd : (x == ("__debug__" : Str)) = false := by decide) : PE X (.Name x pos) (tC (.str y)) := by
  obtain ⟨t, e⟩ := h
  exact pe_glob hg e ⟨t, rfl⟩ hd
theorem pgl_int {y : Int} (h : ∃ t, X.mg x = some (.int y t)) (hg : Gl X x := by rfl) (hd : (x == ("__debug__" : Str)) = false := by decide) : PE X (.Name x pos) (tC (.int y)) := by
  obtain ⟨t, e⟩ := h
  exact pe_glob hg e ⟨t, rfl⟩ hd
end
theorem kit_ty {K : PySem.W.Frag} {n m : String} {b : Bool} (h0 : (Value.type n == Value.type m) = false) (h1 : PySem.W.kitMeta m = true) (h2 : (fastBuiltinMro n).map (·.contains (Value.type m)) = some b) : PySem.W.kitOne K (.type n) (.type m) = some b := by
  unfold PySem.W.kitOne
  rw [if_neg (by rw [h0]; decide)]
  show (if PySem.W.kitMeta m = true then PySem.W.subIn K (.type n) (.type m) else none) = some b
  rw [if_pos h1]
  exact h2
end L2
namespace Mine
open PySem PySem.Spec PyProof.Rows L2 PySem.Builtin PySem.Builtin.Str
theorem appLen (a b : Str) : (a ++ b).length = a.length + b.length := by rw [strLen, strLen, strLen, strApp, List.length_append]
theorem inter_len {c : Nat} : ∀ {ys : List (List Nat)} {y : List Nat}, y ∈ ys → y.length ≤ (inter c ys).length
  | [], _, h => nomatch h
  | [x], y, h => by rw [List.mem_singleton.mp h]; exact Nat.le_refl _
  | x :: z :: r, y, h => by
    show y.length ≤ (x ++ c :: inter c (z :: r)).length
    rw [List.length_append, List.length_cons]
    rcases List.mem_cons.mp h with e | h
    · rw [e]; omega
    · have := inter_len (c := c) h; omega
theorem join_part {c : Nat} {ys : List Str} {y : Str} (h : y ∈ ys) : y.length ≤ (Str.join ⟨#[c]⟩ ys).length := by
  rw [strLen, strLen, join_codes]
  exact inter_len (List.mem_map.mpr ⟨y, h, rfl⟩)
theorem split_part {c : Nat} {x y : Str} (h : y ∈ Txt.split x ⟨#[c]⟩) : y.length ≤ x.length := by
  have := join_part (c := c) h
  rw [StrLaws.join_split] at this
  exact this
theorem split_dot {x y : Str} (h : y ∈ Txt.split x ("." : Str)) : y.length ≤ x.length := by rw [dot_eq] at h; exact split_part h
theorem atI_pick (z : Str) (c k : Int) (h : 0 < z.length) : ∃ ch, atI z.cps.toList (pick c k (z.length : Int)) = some ch := by
  have h1 := pick_ge c k (m := (z.length : Int)) (by omega)
  have h2 := pick_lt c k (m := (z.length : Int)) (by omega)
  have hl : (pick c k (z.length : Int)).toNat < z.cps.toList.length := by rw [← strLen]; omega
  refine ⟨z.cps.toList[(pick c k (z.length : Int)).toNat], ?_⟩
  have := atI_nat (List.getElem?_eq_getElem hl)
  rwa [show (((pick c k (z.length : Int)).toNat : Nat) : Int) = pick c k (z.length : Int) from by omega] at this
theorem dotlen : (("." : Str)).length = 1 := by decide +kernel
theorem dotlen0 : ((("." : Str)).length == 0) = false := by decide +kernel
noncomputable def inL (c : Nat) : Bool := !(Builtin.Str.occurrences letters (⟨#[c]⟩ : Str) 0 letters.length 1).isEmpty
noncomputable def nmB (z : Str) : Bool := decide (1 ≤ z.length) && decide (z.length ≤ 8) && z.cps.toList.all inL
end Mine
namespace L2
open PySem PySem.Spec PyProof.Rows
theorem iteTb {b : Bool} {A B : Prop} (e : b = true) (h : A) : if b = true then A else B := by rw [if_pos e]; exact h
theorem iteFb {b : Bool} {A B : Prop} (e : b = false) (h : B) : if b = true then A else B := by rw [if_neg (by rw [e]; decide)]; exact h
theorem iteNTb {b : Bool} {A B : Prop} (e : b = true) (h : B) : if (!b) = true then A else B := by rw [if_neg (by rw [e]; decide)]; exact h
theorem iteNFb {b : Bool} {A B : Prop} (e : b = false) (h : A) : if (!b) = true then A else B := by rw [if_pos (by rw [e]; decide)]; exact h
theorem rd_pick {z : Str} {c k : Int} {H : Hp} {Q : VK} (h0 : 0 < z.length) (hz : z.length ≤ sizeLine) (h : ∀ ch, Q (.str ⟨#[ch]⟩) H) : rIxS (.str z) (.int (Mine.pick c k (z.length : Int))) H Q := by
  obtain ⟨ch, e⟩ := Mine.atI_pick z c k h0
  exact ⟨z, _, ch, rfl, rfl, hz, e, h ch⟩
end L2

set_option maxHeartbeats 4000000
namespace Mine
open PySem PySem.Spec PyProof.Rows L2 PySem.Builtin PySem.Builtin.Str
noncomputable def figs : Str := "0123456789"
noncomputable def zero : Str := "0"
noncomputable def inF (c : Nat) : Bool := !(Builtin.Str.occurrences figs (⟨#[c]⟩ : Str) 0 figs.length 1).isEmpty
theorem inF_dig {c : Nat} (h0 : 48 ≤ c) (h1 : c ≤ 57) : inF c = true := by
  have h : ∀ n : Fin 10, inF (48 + n.val) = true := by decide +kernel
  have := h ⟨c - 48, by omega⟩
  rwa [show 48 + (⟨c - 48, by omega⟩ : Fin 10).val = c from by show 48 + (c - 48) = c; omega] at this
theorem inL_let {c : Nat} (h0 : 97 ≤ c) (h1 : c ≤ 122) : inL c = true := by
  have h : ∀ n : Fin 26, inL (97 + n.val) = true := by decide +kernel
  have := h ⟨c - 97, by omega⟩
  rwa [show 97 + (⟨c - 97, by omega⟩ : Fin 26).val = c from by show 97 + (c - 97) = c; omega] at this
theorem IsNm.nmB {y : Str} (h : IsNm y) : nmB y = true := by
  unfold Mine.nmB
  rw [decide_eq_true h.lo, decide_eq_true h.hi, List.all_eq_true.mpr fun c hc => inL_let (h.ok c hc).1 (h.ok c hc).2]
  rfl
noncomputable def numB (z : Str) : Bool := decide (1 ≤ z.length) && decide (z.length ≤ 20) && !(decide (z.cps.toList.head? = some 48) && !decide (z = zero)) && z.cps.toList.all inF
noncomputable def numS (m : Nat) : Str := Str.ofString (toString ((m : Nat) : Int))
theorem numS_codes (m : Nat) : (numS m).cps.toList = (Nat.toDigits 10 m).map Char.toNat := PySem.W.KIN.signs_num m
theorem digit_range {m : Nat} {c : Nat} (h : c ∈ (numS m).cps.toList) : 48 ≤ c ∧ c ≤ 57 := by
  rw [numS_codes] at h
  obtain ⟨d, hd, rfl⟩ := List.mem_map.mp h
  have := Nat.isDigit_of_mem_toDigits (by decide) (by decide) hd
  unfold Char.isDigit at this
  simp only [Bool.and_eq_true, decide_eq_true_eq] at this
  exact ⟨this.1, this.2⟩
theorem digits_head : ∀ m : Nat, (Nat.toDigits 10 m).head? = some '0' → m = 0 := by
  intro m
  induction m using Nat.strongRecOn with
  | _ m ih =>
    intro h
    by_cases hm : m < 10
    · rw [Nat.toDigits_of_lt_base hm] at h
      have h' : Nat.digitChar m = '0' := by simpa using h
      have : ∀ n : Fin 10, Nat.digitChar n.val = '0' → n.val = 0 := by decide
      exact this ⟨m, hm⟩ h'
    · have hd : m % 10 < 10 := Nat.mod_lt m (by decide)
      have t : Nat.toDigits 10 (m / 10) ++ Nat.toDigits 10 (m % 10) = Nat.toDigits 10 (10 * (m / 10) + m % 10) := Nat.toDigits_append_toDigits (by decide) (by omega) hd
      rw [Nat.div_add_mod] at t
      rw [← t] at h
      have hne : Nat.toDigits 10 (m / 10) ≠ [] := Nat.toDigits_ne_nil
      cases e : Nat.toDigits 10 (m / 10) with
      | nil => exact absurd e hne
      | cons a r =>
        rw [e] at h
        have := ih (m / 10) (by omega) (by rw [e]; simpa using h)
        omega
theorem char_toNat_inj {a b : Char} (h : a.toNat = b.toNat) : a = b := by
  apply Char.ext
  exact UInt32.toNat_inj.mp h
theorem numS_zero : numS 0 = zero := by decide +kernel
theorem numS_ok {m : Nat} (h : m < 10 ^ 20) : numB (numS m) = true ∧ (numS m).length ≤ 20 ∧ 1 ≤ (numS m).length ∧ intText? (numS m) = some ((m : Nat) : Int) := by
  have hl : (numS m).length = (Nat.toDigits 10 m).length := by rw [strLen, numS_codes, List.length_map]
  have h1 : 1 ≤ (numS m).length := by rw [hl]; exact Nat.length_toDigits_pos
  have h2 : (numS m).length ≤ 20 := by rw [hl]; exact (Nat.length_toDigits_le_iff (by decide) (by decide)).mpr h
  refine ⟨?_, h2, h1, ?_⟩
  · unfold numB
    rw [decide_eq_true h1, decide_eq_true h2, List.all_eq_true.mpr fun c hc => inF_dig (digit_range hc).1 (digit_range hc).2]
    by_cases hd : (numS m).cps.toList.head? = some 48
    · have hm : m = 0 := by
        rw [numS_codes, List.head?_map] at hd
        cases e : (Nat.toDigits 10 m).head? with
        | none => rw [e] at hd; cases hd
        | some d =>
          rw [e] at hd
          have : d = '0' := char_toNat_inj (by simpa using hd)
          rw [this] at e
          exact digits_head m e
      subst hm
      rw [numS_zero, decide_eq_true (rfl : zero = zero)]
      decide +kernel
    · rw [decide_eq_false hd]; rfl
  · rw [intText_digits (fun c hc => digit_range hc) (fun z => by rw [strLen, z] at h1; simp at h1) (by omega), numS_codes, PySem.W.KIN.val_back]
theorem inter_mem {c d : Nat} : ∀ {ys : List (List Nat)}, d ∈ inter c ys → d = c ∨ ∃ y ∈ ys, d ∈ y
  | [], h => by simp [inter] at h
  | [x], h => .inr ⟨x, by simp, h⟩
  | x :: z :: r, h => by
    have h' : d ∈ x ++ c :: inter c (z :: r) := h
    rcases List.mem_append.mp h' with h' | h'
    · exact .inr ⟨x, by simp, h'⟩
    · rcases List.mem_cons.mp h' with h' | h'
      · exact .inl h'
      · rcases inter_mem h' with h'' | ⟨y, hy, h''⟩
        · exact .inl h''
        · exact .inr ⟨y, List.mem_cons_of_mem _ hy, h''⟩
theorem dotted_codes {ys : List Str} (h : ∀ y ∈ ys, IsNm y) {c : Nat} (hc : c ∈ (dotted ys).cps.toList) : c = 46 ∨ (97 ≤ c ∧ c ≤ 122) := by
  rw [dotted_join, join_codes] at hc
  rcases inter_mem hc with e | ⟨y, hy, e⟩
  · exact .inl e
  · obtain ⟨z, hz, rfl⟩ := List.mem_map.mp hy
    exact .inr ((h z hz).ok c e)
theorem dotted_letter {ys : List Str} (h0 : ys ≠ []) (h : ∀ y ∈ ys, IsNm y) : ∃ c ∈ (dotted ys).cps.toList, 97 ≤ c ∧ c ≤ 122 := by
  cases ys with
  | nil => exact absurd rfl h0
  | cons y r =>
    have hy := h y List.mem_cons_self
    cases e : y.cps.toList with
    | nil => have := hy.lo; rw [strLen, e] at this; simp at this
    | cons c q =>
      have hc : c ∈ y.cps.toList := by rw [e]; simp
      refine ⟨c, ?_, hy.ok c hc⟩
      rw [dotted_join, join_codes]
      obtain ⟨R, e1, _⟩ := inter_tail 46 y.cps.toList (r.map (·.cps.toList))
      rw [List.map_cons, e1]
      exact List.mem_append_left _ hc
noncomputable def brk : Str := "()"
theorem brk_codes : brk.cps.toList = [40, 41] := by decide +kernel
theorem ends_tail {z : Str} (h : Txt.endswith z brk = true) : ∃ pre, z.cps.toList = pre ++ [40, 41] := by
  unfold Txt.endswith at h
  have lb : brk.length = 2 := by decide +kernel
  rw [lb, Bool.and_eq_true, decide_eq_true_eq] at h
  obtain ⟨h1, h2⟩ := h
  unfold subAt at h2
  rw [lb] at h2
  have h3 : z.cps.extract (z.length - 2) (z.length - 2 + 2) = brk.cps := by simpa using h2
  have h4 := congrArg Array.toList h3
  rw [Array.toList_extract, List.extract_eq_take_drop, brk_codes] at h4
  refine ⟨z.cps.toList.take (z.length - 2), ?_⟩
  have h5 : z.cps.toList.drop (z.length - 2) = [40, 41] := by
    rw [← h4, List.take_of_length_le]
    rw [List.length_drop, ← strLen]; omega
  rw [← h5, List.take_append_drop]
theorem ends_path {ys : List Str} (h : ∀ y ∈ ys, IsNm y) : Txt.endswith (dotted ys) brk = false := by
  cases e : Txt.endswith (dotted ys) brk with
  | false => rfl
  | true =>
    obtain ⟨pre, hp⟩ := ends_tail e
    have : 41 ∈ (dotted ys).cps.toList := by rw [hp]; simp
    have := dotted_codes h this
    omega
theorem ends_call (a : Str) : Txt.endswith (a ++ brk) brk = true := by
  unfold Txt.endswith subAt
  have lb : brk.length = 2 := by decide +kernel
  rw [appLen, lb, Bool.and_eq_true, decide_eq_true_eq]
  refine ⟨by omega, ?_⟩
  rw [beq_iff_eq]
  apply Array.toList_inj.mp
  rw [Array.toList_extract, List.extract_eq_take_drop, strApp, brk_codes, show a.length + 2 - 2 = a.length from by omega, strLen, List.drop_left]
  simp
theorem cut_call (a : Str) (h : a.length ≤ 1000000) : Txt.slice (a ++ brk) none (some (-2)) = a := by
  apply strExt
  have lb : brk.length = 2 := by decide +kernel
  have hl : (a ++ brk).length = a.length + 2 := by rw [appLen, lb]
  have := slice_closes_to_neg (x := a ++ brk) (j := -2) (k := (a.length : Int)) (by decide) (by rw [hl]; omega) (by rw [hl]; omega)
  have e := eq_of_beq this
  rw [e]
  simp [strApp, strLen]
end Mine

set_option maxHeartbeats 4000000
namespace L2
open PySem PySem.Spec PyProof.Rows
inductive DEq (K : PySem.W.Frag) (H : Hp) : Nat → V → V → Prop where
  | non {n : Nat} : DEq K H n .non .non
  | bl {n : Nat} (b : Bool) : DEq K H n (.bl b) (.bl b)
  | int {n : Nat} (i : Int) : DEq K H n (.int i) (.int i)
  | str {n : Nat} (x : Str) : DEq K H n (.str x) (.str x)
  | same {n : Nat} (a : Addr) : DEq K H n (.ref a) (.ref a)
  | tup {n : Nat} {a b : Addr} {xs ys : List V} (ha : SqT K H a xs) (hb : SqT K H b ys) (hl : xs.length = ys.length) (h : ∀ (i : Nat) x y, xs[i]? = some x → ys[i]? = some y → DEq K H n x y) : DEq K H (n + 1) (.ref a) (.ref b)
  | lst {n : Nat} {a b : Addr} {xs ys : List V} (ha : SqL K H a xs) (hb : SqL K H b ys) (hl : xs.length = ys.length) (h : ∀ (i : Nat) x y, xs[i]? = some x → ys[i]? = some y → DEq K H n x y) : DEq K H (n + 1) (.ref a) (.ref b)
section
variable {X : Cx} {pins : List (Addr × Obj)} {σ : St} {H : Hp} {s : Shared}
theorem Vals.at {xs : List V} {us : List Value} (r : Vals xs us) {j : Nat} (h : j < us.length) : ∃ x, xs[j]? = some x ∧ RelV x us[j] := by
  have hl := r.length
  have hx : xs[j]? = some xs[j] := List.getElem?_eq_getElem (by omega)
  obtain ⟨u, hu, ru⟩ := r.get hx
  rw [List.getElem?_eq_getElem h] at hu
  cases hu
  exact ⟨_, hx, ru⟩
theorem all_true (n : Nat) : (List.range n).all (fun _ => true) = true := by simp
theorem DEq.at (I : Inv X pins σ H s) {n : Nat} {x y : V} (d : DEq X.K H n x y) : ∀ {A : Around} {u v : Value}, A.units + n < cLine → RelV x u → RelV y v → SeqAt.EqAt A s u v true := by
  induction d with
  | non => intro A u v hu ru rv; cases ru; cases rv; exact SeqAt.EqAt.same _
  | bl b => intro A u v hu ru rv; cases ru; cases rv; exact SeqAt.EqAt.same _
  | int i =>
    intro A u v hu ru rv
    obtain ⟨t, rfl⟩ := ru
    obtain ⟨t', rfl⟩ := rv
    have := SeqAt.EqAt.int_int (A := A) (s := s) i t i t'
    rwa [beq_self_eq_true] at this
  | str x =>
    intro A u v hu ru rv
    obtain ⟨t, rfl⟩ := ru
    obtain ⟨t', rfl⟩ := rv
    have := SeqAt.EqAt.str_str (A := A) (s := s) x t x t'
    rwa [beq_self_eq_true] at this
  | same a => intro A u v hu ru rv; cases ru; cases rv; exact SeqAt.EqAt.same _
  | @tup n a b xs ys ha hb hl h ih =>
    intro A u v hu ru rv
    cases ru; cases rv
    by_cases hab : a = b
    · subst hab; exact SeqAt.EqAt.same _
    · obtain ⟨us, r1, p1, _⟩ := I.tuple ha
      obtain ⟨ws, r2, p2, _⟩ := I.tuple hb
      have l1 := r1.length
      have l2 := r2.length
      have := SeqAt.RcAt.tuples (A := A) (s := s) (e := fun _ => true) (show s.heap.IsTuple a us.toArray from p1) (show s.heap.IsTuple b ws.toArray from p2) (by omega) fun j h1 h2 => by
        have h1' : j < us.length := by simpa using h1
        have h2' : j < ws.length := by simpa using h2
        obtain ⟨x, ex, rx⟩ := r1.at h1'
        obtain ⟨y, ey, ry⟩ := r2.at h2'
        exact ih j x y ex ey (A := A.in1) (show A.units + 1 + n < cLine by omega) (by simpa using rx) (by simpa using ry)
      rw [all_true, show (us.toArray.size == ws.toArray.size) = true from by simp; omega] at this
      exact SeqAt.EqAt.of_refs hab this
  | @lst n a b xs ys ha hb hl h ih =>
    intro A u v hu ru rv
    cases ru; cases rv
    by_cases hab : a = b
    · subst hab; exact SeqAt.EqAt.same _
    · obtain ⟨us, r1, p1, _⟩ := I.list ha
      obtain ⟨ws, r2, p2, _⟩ := I.list hb
      have l1 := r1.length
      have l2 := r2.length
      have := SeqAt.RcAt.lists (A := A) (s := s) (e := fun _ => true) p1.isList p2.isList (by simp; omega) (by omega) fun j h1 h2 => by
        have h1' : j < us.length := by simpa using h1
        have h2' : j < ws.length := by simpa using h2
        obtain ⟨x, ex, rx⟩ := r1.at h1'
        obtain ⟨y, ey, ry⟩ := r2.at h2'
        exact ih j x y ex ey (A := A.in1) (show A.units + 1 + n < cLine by omega) (by simpa using rx) (by simpa using ry)
      rw [all_true] at this
      exact SeqAt.EqAt.of_refs hab this
noncomputable def DSq (K : PySem.W.Frag) (H : Hp) (a b : Addr) : Prop := ∃ (n : Nat) (xs ys : List V), n ≤ 60 ∧ xs.length = ys.length ∧ ((SqT K H a xs ∧ SqT K H b ys) ∨ (SqL K H a xs ∧ SqL K H b ys)) ∧ ∀ (i : Nat) x y, xs[i]? = some x → ys[i]? = some y → DEq K H n x y
noncomputable def rEqD (K : PySem.W.Frag) (r : Bool) : R2 := fun x y H Q => ∃ a b, x = .ref a ∧ y = .ref b ∧ DSq K H a b ∧ Q (.bl r) H
theorem op_eqD {K : PySem.W.Frag} (hK : X.K = K) (hu : X.A.units + 64 < cLine) : OpR X (compareOp .Eq) (rEqD K true) := by
  subst hK
  intro pins s σ H x y v u Q I rx ry h
  obtain ⟨a, b, rfl, rfl, ⟨n, xs, ys, hn, hl, hs, hd⟩, q⟩ := h
  cases rx; cases ry
  have fin : EP X pins σ Q (.bool true) s := ⟨.bl true, H, I, rfl, q⟩
  rcases hs with ⟨ha, hb⟩ | ⟨ha, hb⟩
  · obtain ⟨us, r1, p1, _⟩ := I.tuple ha
    obtain ⟨ws, r2, p2, _⟩ := I.tuple hb
    have l1 := r1.length
    have l2 := r2.length
    refine SeqAt.eq_tupleAt (e := fun _ => true) (show s.heap.IsTuple a us.toArray from p1) (show s.heap.IsTuple b ws.toArray from p2) (by omega) (fun j h1 h2 => ?_) ?_
    · have h1' : j < us.length := by simpa using h1
      have h2' : j < ws.length := by simpa using h2
      obtain ⟨x, ex, rx⟩ := r1.at h1'
      obtain ⟨y, ey, ry⟩ := r2.at h2'
      exact DEq.at I (hd j x y ex ey) (A := X.A.in1) (show X.A.units + 1 + n < cLine by omega) (by simpa using rx) (by simpa using ry)
    · rw [all_true, show (us.toArray.size == ws.toArray.size) = true from by simp; omega]
      exact fin
  · obtain ⟨us, r1, p1, _⟩ := I.list ha
    obtain ⟨ws, r2, p2, _⟩ := I.list hb
    have l1 := r1.length
    have l2 := r2.length
    refine SeqAt.eq_listAt (e := fun _ => true) p1.isList p2.isList (by simp; omega) (by omega) (fun j h1 h2 => ?_) ?_
    · have h1' : j < us.length := by simpa using h1
      have h2' : j < ws.length := by simpa using h2
      obtain ⟨x, ex, rx⟩ := r1.at h1'
      obtain ⟨y, ey, ry⟩ := r2.at h2'
      exact DEq.at I (hd j x y ex ey) (A := X.A.in1) (show X.A.units + 1 + n < cLine by omega) (by simpa using rx) (by simpa using ry)
    · rw [all_true]
      exact fin
end
section
variable {X : Cx} {K : PySem.W.Frag}
theorem pg_tupK {es : List Expr} {k : Nat} {t : TGs} {n : Nat} {pos : Pos} (hK : X.K = K) (hc : X.A.handled = none) (h : PGs X es t)
    (hn : (assignEach es X.env).length = n := by rfl) (hst : (assignEach es X.env).findIdx? (·.1) = none := by rfl) : PG X (.Tuple es k pos) (gTup K n t) := by subst hK; exact pg_tup hc h hn hst
end
end L2

set_option maxHeartbeats 4000000
namespace L2
open PySem PySem.Spec PyProof.Rows
noncomputable def Itrs (lo st : Int) (n : Nat) : It := ⟨fun i _ => i < n, fun i H x H' => H' = H ∧ x = .int (lo + (i : Nat) * st), fun i _ => n ≤ i⟩
theorem turn_rangeS {P : Program} {w : World} {K : PySem.W.Frag} {tg : Expr} (it : Addr) (lo st : Int) (n : Nat) : Turn P w K tg (Itrs lo st n) [it] it (fun i h => IsRangeIter h it (lo + (i : Nat) * st) ((n : Int) - (i : Nat)) st) where
  mem := by simp
  obj := fun i h s b hb => by
    have e : b = it := by simpa using hb
    subst e
    exact ⟨_, s, fun v z => by
      have z' : Data.fields _ = Data.cell v := z
      cases z'⟩
  keep := fun i h h' s k => k it (by simp) _ s
  item := by
    intro X hP hw hK hc i pins s σ H E I hf stt hg
    subst hP hw hK
    obtain ⟨f0, f1, f2, f3, f4, f5⟩ := hf it (by simp)
    refine wpAny_pyNext_range_item stt (by have : i < n := hg; omega) fun h' st' sb => ?_
    have st' : IsRangeIter h' it (lo + ((i + 1 : Nat) : Int) * st) ((n : Int) - ((i + 1 : Nat) : Int)) st := by
      have e1 : lo + (i : Int) * st + st = lo + ((i + 1 : Nat) : Int) * st := by rw [Int.natCast_add, Int.add_mul, Int.add_assoc]; simp
      have e2 : (n : Int) - (i : Int) - 1 = (n : Int) - ((i + 1 : Nat) : Int) := by omega
      rw [← e1, ← e2]; exact st'
    have I1 : Inv X pins σ H { s with heap := h', toks := s.toks + 1 } := I.turned (fun b o hb e => (sb.2 b hb).trans e) f0 f1 f3 f4 f5
    exact ⟨_, rfl, go_of (s := { s with heap := h', toks := s.toks + 1 }) (n := "range_iterator") st' rfl rfl (by decide) ⟨.int (lo + (i : Nat) * st), H, I1, ⟨s.toks, rfl⟩, ⟨rfl, rfl⟩, st', fun b hb => (hf b hb).1⟩⟩
  done := by
    intro X hP hw hK hc i pins s σ H E I hf st hg
    subst hP hw hK
    obtain ⟨f0, f1, f2, f3, f4, f5⟩ := hf it (by simp)
    exact end_range (I.hs hc) st (by have : n ≤ i := hg; omega) fun h' eb => ⟨rfl, I.turned (t' := s.toks) (fun b o hb e => eb b o hb e) f0 f1 f3 f4 f5⟩
  self := fun _ _ _ _ _ st h => wpAny_pyIter_rangeiter st h
section
variable {X : Cx} {K : PySem.W.Frag} {tg : Expr}
noncomputable def iRng3 (ta : TA) : TI := fun σ H R => ta σ H fun vs H1 => ∃ i j c : Int, vs = [.int i, .int j, .int c] ∧ c ≠ 0 ∧ c.natAbs < 1073741824 ∧ Builtin.Range.small i j c = true ∧ 0 ≤ Builtin.Range.rangeSize i j c ∧ R (Itrs i c (Builtin.Range.rangeSize i j c).toNat) H1
theorem pi_range3 {a b c : Expr} {ta : TA} {p pos : Pos} (hg : Gl X "range") (hm : X.mg "range" = none) (ha : PA X [a, b, c] ta) (he : starEach [a, b, c] X.env = (false, eval a X.env) :: starEach [b, c] X.env := by rfl) (hpl : (backTo pos (starEach [b, c] X.env)).any (·.1) = false := by rfl) :
    PI X tg (.Call (.Name "range" p) [a, b, c] [] pos) (iRng3 ta) := by
  intro pins s σ H R I h
  refine Call_ (ld_blt I hg hm boot_range (PyProof.Rows.callWith_type1 (thn (ha pos pins s σ H _ I h) fun us s1 ⟨vs, H1, I1, r1, q1⟩ => ?_) he hpl))
  obtain ⟨i, j, k, e, hk, hk2, hsm, hn, q⟩ := q1
  subst e
  cases r1 with
  | cons r rr =>
    cases rr with
    | cons r' rr =>
      cases rr with
      | cons r'' rr =>
        cases rr
        obtain ⟨t, rfl⟩ := r
        obtain ⟨t', rfl⟩ := r'
        obtain ⟨t'', rfl⟩ := r''
        refine call_range_3 hk ?_ (.inl (PyProof.noPylong_small hk2))
        refine wpAny_pyIter_range (IsRange.new ..) hsm ?_
        have I2 : Inv X pins σ H1 { s1 with heap := s1.heap.push { cls := .type "range", data := .fields #[.int i t, .int j t', .int k t''] }, toks := s1.toks } := I1.kept fun b o e => Heap.get?_push_of_some _ e
        refine ⟨_, [(s1.heap.push { cls := .type "range", data := .fields #[.int i t, .int j t', .int k t''] }).objs.size], _, _, H1, rfl,
          I2.kept (t' := s1.toks) fun b o e => Heap.get?_push_of_some _ e, turn_rangeS _ i k (Builtin.Range.rangeSize i j k).toNat, ?_, fun b hb => ?_, q⟩
        · have e1 : i + ((0 : Nat) : Int) * k = i := by simp
          have e2 : (((Builtin.Range.rangeSize i j k).toNat : Nat) : Int) - ((0 : Nat) : Int) = Builtin.Range.rangeSize i j k := by omega
          show IsRangeIter _ _ (i + ((0 : Nat) : Int) * k) ((((Builtin.Range.rangeSize i j k).toNat : Nat) : Int) - ((0 : Nat) : Int)) k
          rw [e1, e2]
          exact Heap.get?_push_size _ rfl
        · have e : b = (s1.heap.push { cls := .type "range", data := .fields #[.int i t, .int j t', .int k t''] }).objs.size := by simpa using hb
          subst e
          exact I2.fpOk (Nat.le_refl _) (I2.hok.fresh (Nat.le_refl _))
end
theorem for_rangeS {lo st : Int} {n : Nat} {g : TG} {tb : TS} {D : Ends} {σ : St} {H : Hp} (Pv : Nat → St → Hp → Prop) (h0 : Pv 0 σ H)
    (hs : ∀ (i : Nat) σ H, i < n → Pv i σ H → g (.int (lo + (i : Nat) * st)) σ H fun σ2 H2 => tb { D with nx := Pv (i + 1), ct := Pv (i + 1), bk := D.nx } σ2 H2) (hd : ∀ σ H, Pv n σ H → D.nx σ H) :
    ∃ W : Nat → Nat → St → Hp → Prop, (∃ m, W 0 m σ H) ∧ ∀ i m σ H, W i m σ H →
      ((Itrs lo st n).stop i H ∧ D.nx σ H) ∨ ((Itrs lo st n).go i H ∧ ∃ N : St → Hp → Prop, (∀ σ' H', N σ' H' → ∃ m', m' < m ∧ W (i + 1) m' σ' H') ∧ ∀ x H', (Itrs lo st n).yld i H x H' → g x σ H' fun σ2 H2 => tb { D with nx := N, ct := N, bk := D.nx } σ2 H2) := by
  refine ⟨fun i m σ H => m = n - i ∧ i ≤ n ∧ Pv i σ H, ⟨n, by simp, Nat.zero_le _, h0⟩, ?_⟩
  rintro i m σ H ⟨rfl, hi, p⟩
  by_cases hlt : i < n
  · refine .inr ⟨hlt, Pv (i + 1), fun σ' H' p' => ⟨n - (i + 1), by omega, rfl, hlt, p'⟩, fun x H' y => ?_⟩
    obtain ⟨e, y⟩ := y
    subst e y
    exact hs i σ _ hlt p
  · have e : i = n := by omega
    subst e
    exact .inl ⟨Nat.le_refl _, hd σ H p⟩
section
variable {X : Cx} {K : PySem.W.Frag}
theorem call_int_str : CallR X (.type "int") (fun xs H Q => ∃ z n, xs = [.str z] ∧ intText? z = some n ∧ z.length ≤ 640 ∧ Q (.int n) H) := by
  intro pins s σ H xs us Q I r h
  obtain ⟨z, n, rfl, hn, hl, q⟩ := h
  obtain ⟨u, rfl, t, rfl⟩ := vals1 r
  exact PySem.W.KIN.call_text hn hl ⟨.int n, H, I.tok _, ⟨_, rfl⟩, q⟩
noncomputable def rEnds : V → List V → Hp → VK → Prop := fun x vs H Q => ∃ z y, x = .str z ∧ vs = [.str y] ∧ Q (.bl (Txt.endswith z y)) H
theorem mt_endswith : MtR X "str.endswith" rEnds := by
  intro pins s σ H x vs v us Q I rx rv h
  obtain ⟨z, y, rfl, rfl, q⟩ := h
  obtain ⟨t, rfl⟩ := rx
  obtain ⟨u, rfl, t2, rfl⟩ := vals1 rv
  exact SC.endswith ⟨.bl _, H, I, rfl, q⟩
theorem op_rep_str : OpR X (binaryOp .Mult) (fun x y H Q => ∃ z n, x = .str z ∧ y = .int n ∧ MulOk z n ∧ Q (.str (Txt.mul z n)) H) := by
  intro pins s σ H x y v u Q I rx ry h
  obtain ⟨z, n, rfl, rfl, hm, q⟩ := h
  obtain ⟨t, rfl⟩ := rx
  obtain ⟨t', rfl⟩ := ry
  exact SB.mul hm fun t' k => ⟨.str _, H, I.tok k, ⟨t', rfl⟩, q⟩
end
end L2

set_option maxHeartbeats 4000000
namespace Mine
open PySem PySem.Spec PyProof.Rows L2 PySem.Builtin PySem.Builtin.Str
inductive Thg where
  | num (m : Nat)
  | nms (c : Bool) (ys : List Str)
structure Trm where
  sg : Int
  th : Thg
noncomputable def kindOf : Thg → Str
  | .num _ => "number"
  | .nms c _ => if c = true then "call" else "path"
noncomputable def wordOf : Thg → Str
  | .num m => numS m
  | .nms c ys => if c = true then dotted ys ++ brk else dotted ys
noncomputable def sgw (s : Int) : Str := if s = 1 then "+" else "-"
noncomputable def wordsOf : List Trm → List Str
  | [] => []
  | t :: r => wordOf t.th :: (r.map fun t => [sgw t.sg, wordOf t.th]).flatten
noncomputable def textOf (ts : List Trm) : Str := Str.join ⟨#[32]⟩ (wordsOf ts)
structure GoodN (ys : List Str) : Prop where
  lo : ys ≠ []
  hi : ys.length ≤ 4
  nm : ∀ y ∈ ys, IsNm y
noncomputable def GoodTh : Thg → Prop
  | .num m => m < 10 ^ 20
  | .nms _ ys => GoodN ys
structure GoodT (t : Trm) : Prop where
  sg : t.sg = 1 ∨ t.sg = -1
  th : GoodTh t.th
structure GoodTs (ts : List Trm) : Prop where
  lo : ts ≠ []
  hi : ts.length ≤ 6
  ok : ∀ t ∈ ts, GoodT t
  hd : ∀ t, ts.head? = some t → t.sg = 1
theorem brk_len : brk.length = 2 := by decide +kernel
theorem GoodN.len {ys : List Str} (h : GoodN ys) : (dotted ys).length ≤ 36 := by
  have h1 := dotted_len ys
  have h2 : (ys.map (·.length)).sum ≤ ys.length * 8 := sum_le fun y hy => (h.nm y hy).hi
  have := h.hi
  omega
theorem word_len {th : Thg} (h : GoodTh th) : (wordOf th).length ≤ 38 := by
  cases th with
  | num m => exact Nat.le_trans (numS_ok h).2.1 (by decide)
  | nms c ys =>
    have := GoodN.len h
    cases c with
    | true => show (dotted ys ++ brk).length ≤ 38; rw [appLen, brk_len]; omega
    | false => show (dotted ys).length ≤ 38; omega
theorem word_free {th : Thg} (h : GoodTh th) : 32 ∉ (wordOf th).cps.toList := by
  cases th with
  | num m =>
    intro z
    have := digit_range z
    omega
  | nms c ys =>
    have key : 32 ∉ (dotted ys).cps.toList := fun z => by have := dotted_codes (GoodN.nm h) z; omega
    cases c with
    | true =>
      show 32 ∉ (dotted ys ++ brk).cps.toList
      rw [strApp, brk_codes]
      intro z
      rcases List.mem_append.mp z with z | z
      · exact key z
      · simp at z
    | false => exact key
theorem plus_codes : (("+" : Str)).cps.toList = [43] := by decide +kernel
theorem minus_codes : (("-" : Str)).cps.toList = [45] := by decide +kernel
theorem sgw_codes (s : Int) : (sgw s).cps.toList = [43] ∨ (sgw s).cps.toList = [45] := by
  unfold sgw; split
  · exact .inl plus_codes
  · exact .inr minus_codes
theorem sgw_len (s : Int) : (sgw s).length = 1 := by
  rw [strLen]; rcases sgw_codes s with e | e <;> rw [e] <;> rfl
theorem sgw_free (s : Int) : 32 ∉ (sgw s).cps.toList := by rcases sgw_codes s with e | e <;> rw [e] <;> decide
theorem wordsOf_mem {ts : List Trm} {x : Str} (h : x ∈ wordsOf ts) : (∃ t ∈ ts, x = wordOf t.th) ∨ ∃ t ∈ ts, x = sgw t.sg := by
  cases ts with
  | nil => simp [wordsOf] at h
  | cons t r =>
    rcases List.mem_cons.mp h with h | h
    · exact .inl ⟨t, List.mem_cons_self, h⟩
    · obtain ⟨l, hl, hx⟩ := List.mem_flatten.mp h
      obtain ⟨u, hu, rfl⟩ := List.mem_map.mp hl
      simp only [List.mem_cons, List.not_mem_nil, or_false] at hx
      rcases hx with hx | hx
      · exact .inr ⟨u, List.mem_cons_of_mem _ hu, hx⟩
      · exact .inl ⟨u, List.mem_cons_of_mem _ hu, hx⟩
theorem wordsOf_ne {ts : List Trm} (h : ts ≠ []) : wordsOf ts ≠ [] := by
  cases ts with
  | nil => exact absurd rfl h
  | cons t r => intro z; cases z
theorem blank_eq : ((" " : Str)) = ⟨#[32]⟩ := by decide +kernel
theorem text_split {ts : List Trm} (h : GoodTs ts) : Txt.split (textOf ts) (" " : Str) = wordsOf ts := by
  rw [blank_eq]
  refine split_join 32 _ (wordsOf_ne h.lo) fun y hy => ?_
  rcases wordsOf_mem hy with ⟨t, ht, rfl⟩ | ⟨t, ht, rfl⟩
  · exact word_free (h.ok t ht).th
  · exact sgw_free _
theorem flat_len (r : List Trm) : ((r.map fun t => [sgw t.sg, wordOf t.th]).flatten).length = 2 * r.length := by
  induction r with
  | nil => rfl
  | cons t r ih => rw [List.map_cons, List.flatten_cons, List.length_append, ih]; simp; omega
theorem wordsOf_len {ts : List Trm} (h : ts ≠ []) : (wordsOf ts).length = 2 * ts.length - 1 := by
  cases ts with
  | nil => exact absurd rfl h
  | cons t r => show (_ :: _).length = _; rw [List.length_cons, flat_len, List.length_cons]; omega
theorem flat_at : ∀ (r : List Trm) (i : Nat) (t : Trm), r[i]? = some t →
    ((r.map fun t => [sgw t.sg, wordOf t.th]).flatten)[2 * i]? = some (sgw t.sg) ∧ ((r.map fun t => [sgw t.sg, wordOf t.th]).flatten)[2 * i + 1]? = some (wordOf t.th)
  | [], i, t, h => by simp at h
  | u :: r, 0, t, h => by
    have : u = t := by simpa using h
    subst this
    exact ⟨rfl, rfl⟩
  | u :: r, i + 1, t, h => by
    have ih := flat_at r i t (by simpa using h)
    rw [List.map_cons, List.flatten_cons, show 2 * (i + 1) = 2 * i + 1 + 1 from by omega]
    exact ih
theorem words_at {ts : List Trm} {i : Nat} {t : Trm} (h : ts[i + 1]? = some t) : (wordsOf ts)[2 * i + 1]? = some (sgw t.sg) ∧ (wordsOf ts)[2 * i + 2]? = some (wordOf t.th) := by
  cases ts with
  | nil => simp at h
  | cons u r => exact flat_at r i t (by simpa using h)
theorem wordsOf_snoc {ts : List Trm} (t : Trm) (h : ts ≠ []) : wordsOf (ts ++ [t]) = wordsOf ts ++ [sgw t.sg, wordOf t.th] := by
  cases ts with
  | nil => exact absurd rfl h
  | cons u r =>
    show wordOf u.th :: ((r ++ [t]).map fun t => [sgw t.sg, wordOf t.th]).flatten = wordOf u.th :: (r.map fun t => [sgw t.sg, wordOf t.th]).flatten ++ [sgw t.sg, wordOf t.th]
    rw [List.map_append, List.flatten_append]
    simp
noncomputable def gap (s : Int) : Str := if s = 1 then " + " else " - "
theorem gap_codes (s : Int) : (gap s).cps.toList = 32 :: ((sgw s).cps.toList ++ [32]) := by
  unfold gap sgw
  split
  · rw [plus_codes]; decide +kernel
  · rw [minus_codes]; decide +kernel
theorem gap_len (s : Int) : (gap s).length = 3 := by
  rw [strLen, gap_codes, List.length_cons, List.length_append, ← strLen, sgw_len]; rfl
theorem textOf_snoc {ts : List Trm} (t : Trm) (h : ts ≠ []) : textOf (ts ++ [t]) = textOf ts ++ gap t.sg ++ wordOf t.th := by
  unfold textOf
  rw [wordsOf_snoc t h, show wordsOf ts ++ [sgw t.sg, wordOf t.th] = (wordsOf ts ++ [sgw t.sg]) ++ [wordOf t.th] from by simp, join_snoc _ _ _ (by simp), join_snoc _ _ _ (wordsOf_ne h)]
  apply strExt
  simp only [strApp, gap_codes, List.append_assoc]
  simp
theorem textOf_len {ts : List Trm} (h : ∀ t ∈ ts, GoodT t) : (textOf ts).length ≤ 80 * ts.length := by
  unfold textOf
  have h1 := StrLaws.join_length_le ⟨#[32]⟩ (wordsOf ts)
  have e : (⟨#[32]⟩ : Str).length = 1 := rfl
  rw [e] at h1
  have h2 : ((wordsOf ts).map (·.length)).sum ≤ (wordsOf ts).length * 38 := sum_le fun y hy => by
    rcases wordsOf_mem hy with ⟨t, ht, rfl⟩ | ⟨t, ht, rfl⟩
    · exact word_len (h t ht).th
    · rw [sgw_len]; decide
  cases ts with
  | nil => exact Nat.le_of_eq rfl
  | cons t r =>
    have := wordsOf_len (ts := t :: r) (by simp)
    omega
theorem mul_brk (k : Bool) : Txt.mul brk (if k = true then 1 else 0) = if k = true then brk else Str.empty := by cases k <;> rfl
theorem app_empty (a : Str) : a ++ Str.empty = a := by apply strExt; rw [strApp]; simp [Str.empty]
end Mine

set_option maxHeartbeats 4000000
namespace L2
open PySem PySem.Spec PyProof.Rows
theorem comp_rangeP {lo : Int} {n : Nat} {te : TE} {τ0 : St} {H : Hp} {Fin : List V → Hp → Prop} (R : Nat → V → Hp → Prop) (hm : ∀ i v H' H'', R i v H' → Same H' H'' → R i v H'') (hn : n ≤ sizeLine)
    (hte : ∀ (i : Nat) H' (Q : VK), i < n → Same H H' → (∀ v H'', Same H' H'' → R i v H'' → Q v H'') → te (τ0.set 0 (some (.int (lo + i)))) H' Q)
    (hfin : ∀ ys H', Same H H' → ys.length = n → (∀ (i : Nat) v, ys[i]? = some v → R i v H') → Fin ys H') : CompW (gName 0) tYes te (Itr lo n) τ0 H Fin := by
  refine ⟨fun i m τ ys H' => m = n - i ∧ i ≤ n ∧ ys.length = i ∧ (∀ (j : Nat) v, ys[j]? = some v → R j v H') ∧ Same H H' ∧ ∃ v, τ = τ0.set 0 v ∨ τ = τ0, ⟨n, rfl, Nat.zero_le _, rfl, fun j v h => by simp at h, Same.refl _, none, .inr rfl⟩, ?_⟩
  rintro i m τ ys H' ⟨rfl, hi, hl, hr, sm, v, hτ⟩
  by_cases hlt : i < n
  · refine .inr ⟨hlt, fun x H'' y => ?_⟩
    obtain ⟨e, y⟩ := y
    subst e y
    have e2 : τ.set 0 (some (V.int (lo + i))) = τ0.set 0 (some (V.int (lo + i))) := by
      rcases hτ with rfl | rfl
      · rw [List.set_set]
      · rfl
    unfold gName tYes
    rw [e2]
    dsimp only
    rw [if_pos rfl]
    refine hte i H'' _ hlt sm fun v H4 s4 hv => ?_
    refine ⟨by omega, n - (i + 1), by omega, rfl, hlt, by rw [List.length_append, hl]; rfl, fun j u hj => ?_, sm.trans s4, _, .inl rfl⟩
    by_cases hji : j < ys.length
    · rw [List.getElem?_append_left hji] at hj
      exact hm _ _ _ _ (hr j u hj) s4
    · rw [List.getElem?_append_right (by omega)] at hj
      have hj0 : j - ys.length = 0 := by
        cases hh : j - ys.length with
        | zero => rfl
        | succ k => rw [hh] at hj; simp at hj
      rw [hj0] at hj
      have : j = i := by omega
      subst this
      have : v = u := by simpa using hj
      subst this
      exact hv
  · have e : i = n := by omega
    subst e
    exact .inl ⟨Nat.le_refl _, hfin ys H' sm hl hr⟩
end L2
namespace Mine
open PySem PySem.Spec PyProof.Rows L2 PySem.Builtin PySem.Builtin.Str
noncomputable def ThAt (H : Hp) (x : V) : Thg → Prop
  | .num m => x = .int ((m : Nat) : Int)
  | .nms _ ys => ∃ q, x = .ref q ∧ H q = some (.tup (ys.map V.str))
noncomputable def TmAt (H : Hp) (v : V) (t : Trm) : Prop := ∃ p x, v = .ref p ∧ H p = some (.tup [.int t.sg, .str (kindOf t.th), x]) ∧ ThAt H x t.th
noncomputable def TmsAt (H : Hp) (l : Addr) (ts : List Trm) : Prop := ∃ xs, H l = some (.lst xs) ∧ xs.length = ts.length ∧ ∀ (i : Nat) x, xs[i]? = some x → ∃ t, ts[i]? = some t ∧ TmAt H x t
theorem ThAt.same {H H' : Hp} {x : V} {th : Thg} (h : ThAt H x th) (s : Same H H') : ThAt H' x th := by
  cases th with
  | num m => exact h
  | nms c ys => obtain ⟨q, e, hq⟩ := h; exact ⟨q, e, s _ _ hq⟩
theorem TmAt.same {H H' : Hp} {v : V} {t : Trm} (h : TmAt H v t) (s : Same H H') : TmAt H' v t := by
  obtain ⟨p, x, e, hp, hx⟩ := h
  exact ⟨p, x, e, s _ _ hp, hx.same s⟩
theorem TmsAt.same {H H' : Hp} {l : Addr} {ts : List Trm} (h : TmsAt H l ts) (s : Same H H') : TmsAt H' l ts := by
  obtain ⟨xs, hl, hn, hx⟩ := h
  refine ⟨xs, s _ _ hl, hn, fun i x e => ?_⟩
  obtain ⟨t, ht, tm⟩ := hx i x e
  exact ⟨t, ht, tm.same s⟩
theorem TmAt.upd {H : Hp} {v : V} {t : Trm} {l : Addr} {ys : List V} {o : HO} (h : TmAt H v t) (hl : H l = some (.lst ys)) : TmAt (upd H l o) v t := by
  obtain ⟨p, x, e, hp, hx⟩ := h
  refine ⟨p, x, e, by rw [upd_ne (ne_of hp hl (by intro z; cases z))]; exact hp, ?_⟩
  cases hth : t.th with
  | num m => rw [hth] at hx; exact hx
  | nms c zs =>
    rw [hth] at hx
    obtain ⟨q, e, hq⟩ := hx
    exact ⟨q, e, by rw [upd_ne (ne_of hq hl (by intro z; cases z))]; exact hq⟩
theorem ThAt.deq {K : PySem.W.Frag} {H : Hp} {x y : V} {th : Thg} (h1 : ThAt H x th) (h2 : ThAt H y th) : DEq K H 1 x y := by
  cases th with
  | num m => cases h1; cases h2; exact .int _
  | nms c ys =>
    obtain ⟨q, rfl, hq⟩ := h1
    obtain ⟨r, rfl, hr⟩ := h2
    refine .tup (SqT.of hq) (SqT.of hr) rfl fun i a b ha hb => ?_
    rw [ha] at hb; cases hb
    rw [List.getElem?_map] at ha
    cases hy : ys[i]? with
    | none => rw [hy] at ha; cases ha
    | some z => rw [hy] at ha; cases ha; exact .str z
theorem TmAt.items {K : PySem.W.Frag} {H : Hp} {t : Trm} {x y : V} (h1 : ThAt H x t.th) (h2 : ThAt H y t.th) :
    ∀ (i : Nat) a b, ([.int t.sg, .str (kindOf t.th), x] : List V)[i]? = some a → ([.int t.sg, .str (kindOf t.th), y] : List V)[i]? = some b → DEq K H 1 a b
  | 0, a, b, ha, hb => by cases ha; cases hb; exact .int _
  | 1, a, b, ha, hb => by cases ha; cases hb; exact .str _
  | 2, a, b, ha, hb => by cases ha; cases hb; exact h1.deq h2
  | i + 3, a, b, ha, hb => by simp at ha
theorem choose_list {α β : Type} (P : Nat → α → β → Prop) : ∀ (ys : List α) (k : Nat), (∀ (i : Nat) v, ys[i]? = some v → ∃ t, P (k + i) v t) → ∃ ts : List β, ts.length = ys.length ∧ ∀ (i : Nat) v, ys[i]? = some v → ∃ t, ts[i]? = some t ∧ P (k + i) v t
  | [], k, _ => ⟨[], rfl, fun i v h => by simp at h⟩
  | y :: ys, k, h => by
    obtain ⟨t0, h0⟩ := h 0 y rfl
    obtain ⟨ts, hl, ht⟩ := choose_list P ys (k + 1) fun i v e => by
      have := h (i + 1) v (by simpa using e)
      rwa [show k + (i + 1) = k + 1 + i from by omega] at this
    refine ⟨t0 :: ts, by simp [hl], fun i v e => ?_⟩
    cases i with
    | zero => cases e; exact ⟨t0, rfl, h0⟩
    | succ i =>
      obtain ⟨t, e2, p⟩ := ht i v (by simpa using e)
      refine ⟨t, by simpa using e2, ?_⟩
      rwa [show k + (i + 1) = k + 1 + i from by omega]
theorem cut_drop (xs : List V) : cutV xs (some 1) none = xs.drop 1 := by
  unfold cutV
  have e : HT.sIx xs.length 0 (some 1) = min 1 xs.length := HT.sIx_nat xs.length 0 1
  rw [e, HT.sIx_none]
  cases xs with
  | nil => rfl
  | cons a r => 
    rw [show min 1 (a :: r).length = 1 from by simp]
    exact List.take_of_length_le (by simp)
theorem log2_small {m : Nat} (h : m < 10 ^ 20) : m.log2 < 1920 := by
  by_cases h0 : m = 0
  · subst h0; decide
  · exact Nat.lt_trans ((Nat.log2_lt h0).mpr (Nat.lt_trans h (by decide : 10 ^ 20 < 2 ^ 70))) (by decide)
theorem mul_brk_ok (k : Bool) : MulOk brk (if k = true then 1 else 0) := by
  cases k
  · exact ⟨by decide, fun z => absurd (by decide) z, fun z => absurd (by decide) z⟩
  · exact ⟨by decide, fun _ z => (by cases z), fun _ z => (by cases z)⟩
end Mine

set_option maxHeartbeats 4000000
namespace L2
open PySem PySem.Spec PyProof.Rows PySem.W
section
variable {X : Cx} {x : Str} {pos : Pos}
end
structure RCl (K : Frag) (C : Addr) : Prop where
  cl : Cls K C
  ha : findIn K (.ref C) "__class__" = some (some (.builtin "object.__class__"))
  hn : specialIn K (.builtin "object.__class__") "__get__" = some (some (.builtin "getset_descriptor.__get__"))
  htk : takesIn K (.builtin "object.__class__") = some true
  hm : mroIn K C (.type "object") = some true
theorem RCl.ty {K : Frag} {C a dx : Addr} {H : Hp} {fs : List (Str × V)} (c : RCl K C) (e : H a = some (.ins C dx fs)) : TyOf K H (.ref a) (.ref C) := .ins e c.cl c.ha c.hn c.htk c.hm
section
variable {X : Cx} {C : Addr} {x : Str} {p pos : Pos}
end
section
variable {X : Cx} {C f : Addr} {k : Nat} {fd : FuncData} {ps : List Str} {sp : Sp} {x : Str} {p pos : Pos} {e : Expr} {es : List Expr} {t : TA}
end
section
variable {X : Cx} {P : Program} {w : World} {K : Frag} {mg : Str → Option Value} {base : Heap} {k : Nat} {m : Str} {o : Expr} {ta : TE} {pos apos : Pos}
end
section
variable {X : Cx} {o value : Expr} {f : Str} {pos pos' : Pos} {ta tv : TE}
end
noncomputable def SameBut (x : Addr) (H H' : Hp) : Prop := ∀ b o, H b = some o → b ≠ x → H' b = some o
theorem sb2 {H : Hp} {x l : Addr} {o1 o2 : HO} (hl : H l = none) : SameBut x H (upd (upd H l o1) x o2) := fun b o e hb => by
  rw [upd_ne hb, upd_ne (ne_of_none e hl)]; exact e
theorem len0 {α : Type} {us : List α} (h : us.length = 0) : us = [] := List.length_eq_zero_iff.mp h
theorem len_s {α : Type} {us : List α} {n : Nat} (h : us.length = n + 1) : ∃ a r, us = a :: r ∧ r.length = n := by
  cases us with
  | nil => cases h
  | cons a r => exact ⟨a, r, rfl, Nat.succ.inj h⟩
theorem len1 {α : Type} {us : List α} (h : us.length = 1) : ∃ a, us = [a] := by
  obtain ⟨a, r, rfl, k⟩ := len_s h
  exact ⟨a, by rw [len0 k]⟩
theorem len2 {α : Type} {us : List α} (h : us.length = 2) : ∃ a b, us = [a, b] := by
  obtain ⟨a, r, rfl, k⟩ := len_s h
  obtain ⟨b, rfl⟩ := len1 k
  exact ⟨a, b, rfl⟩
theorem len3 {α : Type} {us : List α} (h : us.length = 3) : ∃ a b c, us = [a, b, c] := by
  obtain ⟨a, r, rfl, k⟩ := len_s h
  obtain ⟨b, c, rfl⟩ := len2 k
  exact ⟨a, b, c, rfl⟩
end L2

set_option maxHeartbeats 4000000
namespace Mine
open PySem PySem.Spec PyProof.Rows L2 PySem.Builtin PySem.Builtin.Str
structure RowD where
  so : Nat
  nm : Str
  ad : Str
  wd : Str
  ts : List Trm
noncomputable def sortW : Nat → Str
  | 0 => "let"
  | 1 => "deed"
  | 2 => "draw"
  | 3 => "late"
  | 4 => "take"
  | _ => "need"
structure GoodA (ys : List Str) : Prop where
  lo : ys ≠ []
  hi : ys.length ≤ 3
  nm : ∀ y ∈ ys, IsNm y
structure GoodR (r : RowD) : Prop where
  so : r.so ≤ 5
  nm : r.so < 5 → IsNm r.nm
  no : r.so = 5 → r.nm = ""
  ad : ∃ ys, GoodA ys ∧ r.ad = dotted ys
  wd : IsNm r.wd
  ts : GoodTs r.ts
  dd : r.so = 1 → ∀ t ∈ r.ts, ∀ ys, t.th ≠ .nms true ys
theorem GoodA.len {ys : List Str} (h : GoodA ys) : (dotted ys).length ≤ 36 := GoodN.len ⟨h.lo, Nat.le_trans h.hi (by decide), h.nm⟩
theorem GoodR.nl {r : RowD} (h : GoodR r) : r.nm.length ≤ 8 := by
  rcases Nat.lt_or_ge r.so 5 with k | k
  · exact (h.nm k).hi
  · rw [h.no (by have := h.so; omega)]; decide
theorem GoodR.tl {r : RowD} (h : GoodR r) : (textOf r.ts).length ≤ 480 := by
  have := textOf_len (ts := r.ts) fun t ht => h.ts.ok t ht
  have := h.ts.hi
  omega
noncomputable def RowTup (H : Hp) (v : V) (lt : Addr) (r : RowD) : Prop := ∃ p, v = .ref p ∧ H p = some (.tup [.str (sortW r.so), .str r.nm, .str r.ad, .str r.wd, .ref lt]) ∧ TmsAt H lt r.ts
structure Flds (H : Hp) (fs : List (Str × V)) (l : Addr) (r : RowD) : Prop where
  nm : r.so < 5 → fs.lookup ("name" : Str) = some (.str r.nm)
  tm : r.so = 0 ∨ r.so = 1 ∨ r.so = 5 → fs.lookup ("terms" : Str) = some (.ref l) ∧ TmsAt H l r.ts
  ad : r.so = 2 ∨ r.so = 3 ∨ r.so = 4 → fs.lookup ("address" : Str) = some (.str r.ad)
  wd : r.so = 4 → fs.lookup ("word" : Str) = some (.str r.wd)
  nb : fs.lookup ("binds" : Str) = none
  na : fs.lookup ("asked" : Str) = none
  ns : fs.lookup ("said" : Str) = none
noncomputable def RowAt (C : Nat → Addr) (H : Hp) (a l : Addr) (r : RowD) : Prop := ∃ dx fs, H a = some (.ins (C r.so) dx fs) ∧ Flds H fs l r
theorem Flds.same {H H' : Hp} {fs : List (Str × V)} {l : Addr} {r : RowD} (h : Flds H fs l r) (s : Same H H') : Flds H' fs l r :=
  ⟨h.nm, fun k => ⟨(h.tm k).1, (h.tm k).2.same s⟩, h.ad, h.wd, h.nb, h.na, h.ns⟩
theorem RowAt.same {C : Nat → Addr} {H H' : Hp} {a l : Addr} {r : RowD} (h : RowAt C H a l r) (s : Same H H') : RowAt C H' a l r := by
  obtain ⟨dx, fs, e, f⟩ := h
  exact ⟨dx, fs, s _ _ e, f.same s⟩
theorem RowTup.same {H H' : Hp} {v : V} {lt : Addr} {r : RowD} (h : RowTup H v lt r) (s : Same H H') : RowTup H' v lt r := by
  obtain ⟨p, e, hp, t⟩ := h
  exact ⟨p, e, s _ _ hp, t.same s⟩
theorem TmsAt.upd {H : Hp} {l d : Addr} {ts : List Trm} {ys : List V} {o : HO} (h : TmsAt H l ts) (hd : H d = some (.lst ys)) (hne : l ≠ d) : TmsAt (upd H d o) l ts := by
  obtain ⟨xs, hl, hn, hx⟩ := h
  refine ⟨xs, by rw [upd_ne hne]; exact hl, hn, fun i x e => ?_⟩
  obtain ⟨t, ht, tm⟩ := hx i x e
  exact ⟨t, ht, tm.upd hd⟩
theorem RowAt.upd {C : Nat → Addr} {H : Hp} {a l d : Addr} {r : RowD} {ys : List V} {o : HO} (h : RowAt C H a l r) (hd : H d = some (.lst ys)) (hne : l ≠ d) : RowAt C (upd H d o) a l r := by
  obtain ⟨dx, fs, e, f⟩ := h
  exact ⟨dx, fs, by rw [upd_ne (ne_of e hd (by intro z; cases z))]; exact e, f.nm, fun k => ⟨(f.tm k).1, (f.tm k).2.upd hd hne⟩, f.ad, f.wd, f.nb, f.na, f.ns⟩
theorem RowTup.upd {H : Hp} {v : V} {lt d : Addr} {r : RowD} {ys : List V} {o : HO} (h : RowTup H v lt r) (hd : H d = some (.lst ys)) (hne : lt ≠ d) : RowTup (upd H d o) v lt r := by
  obtain ⟨p, e, hp, t⟩ := h
  exact ⟨p, e, by rw [upd_ne (ne_of hp hd (by intro z; cases z))]; exact hp, t.upd hd hne⟩
theorem TmAt.but {H H' : Hp} {v : V} {t : Trm} {x C dx : Addr} {fs : List (Str × V)} (h : TmAt H v t) (hx : H x = some (.ins C dx fs)) (s : SameBut x H H') : TmAt H' v t := by
  obtain ⟨p, y, e, hp, hy⟩ := h
  refine ⟨p, y, e, s _ _ hp (ne_of hp hx (by intro z; cases z)), ?_⟩
  cases hth : t.th with
  | num m => rw [hth] at hy; exact hy
  | nms c zs =>
    rw [hth] at hy
    obtain ⟨q, e, hq⟩ := hy
    exact ⟨q, e, s _ _ hq (ne_of hq hx (by intro z; cases z))⟩
end Mine

set_option maxHeartbeats 4000000
namespace L2
open PySem PySem.Spec PyProof.Rows PySem.W
noncomputable abbrev excObj (C : Addr) (dx : Option Addr) (vs : Array Value) : Obj := { cls := .ref C, dict := dx, data := .fields vs }
section
variable {prog : Program} {w : World} {A : Around} {R : Result → Shared → Prop} {h : Heap} {g : Array GenState} {d : Drawn} {t : Nat} {os : OsState}
variable {nm q : Str} {C N : Addr} {f : Value} {bs bm bmB : List Value} {hdct : Bool} {sn : List Str} {sub : List Value} {ab : Bool} {col : Option Bool} {dd : Option Addr} {k0 k1 k2 k3 k5 : Option Value} {B newId initId : String}
theorem exc_make (F : ExcBaseFacts B newId initId bmB) (T : OwnTail h bmB bm) {rest : List Value}
    (hC : h.get? C = some (excClassObj nm q C N bs bm hdct sn sub ab col dd k0 k1 k2 k3 k5 newId)) (hi : Looks (model prog w) h (typeLookup (.ref C) "__init__") (some f))
    (hb : ∀ self, Looks (model prog w) h (bindSpecial f self) (f, [self])) (hrest : rest.length ≤ sizeLine)
    (hq : codeAny (model prog w) (A.under (.builtin "type.__call__" ⟨.ref C :: rest, []⟩)) (.call f ⟨.ref (h.objs.size + 1) :: rest, []⟩) (InitBack (h.objs.size + 1) R)
      ⟨(h.push { cls := .type "tuple", data := .seq rest.toArray }).push (excObj C none #[.ref h.objs.size, .none, .none, .none, .bool false, .none]), g, d, t, os⟩) :
    codeAny (model prog w) A (.call (.ref C) ⟨rest, []⟩) R ⟨h, g, d, t, os⟩ := by
  have f1 := PySem.tc_lookup
  have f2 := PySem.tc_bind (.ref C)
  have hT : (⟨h, g, d, t, os⟩ : Shared).TypeIs (.ref C) "type" := ⟨_, hC, rfl⟩
  refine codeAny_of_tree ?_
  show wpAny _ _ (callAny (.ref C) _) _ _ _
  repeat (any_goals (first | assumption | with_reducible refine wpAny_loadPart_at hC ?_ | wp_step))
  refine ⟨rfl, ?_⟩
  refine codeAny_call_builtin_at (Code.quiet_builtin _ (by decide +kernel)) PySem.entry_typeCall (wpAny_check_type_call_sub hC ?_)
  repeat (first | with_reducible refine wpAny_loadPart_at hC ?_ | with_reducible refine wpAny_madeBy_exc hC ?_ | wp_step)
  refine codeAny_call_builtin_code (Code.quiet_builtin _ F.quiet) (wpAny_check_new_subT F T hC ?_)
  refine codeAny_exc_new_subT F T hC ?_ hrest
  show wpAny _ _ _ _ _ _
  have kp : ∀ b o, h.get? b = some o → ((h.push { cls := .type "tuple", data := .seq rest.toArray }).push { cls := .ref C, data := .fields #[.ref h.objs.size, .none, .none, .none, .bool false, .none] }).get? b = some o := fun b o e => Heap.get?_push_of_some _ (Heap.get?_push_of_some _ e)
  have hC₁ := kp _ _ hC
  have hget : ((h.push { cls := .type "tuple", data := .seq rest.toArray }).push { cls := .ref C, data := .fields #[.ref h.objs.size, .none, .none, .none, .bool false, .none] }).get? (h.objs.size + 1) = some { cls := .ref C, data := .fields #[.ref h.objs.size, .none, .none, .none, .bool false, .none] } := by heap_get
  have hcC : (Value.ref C :: bm).contains (.ref C) = true := by simp
  have t1 : Looks (model prog w) ((h.push { cls := .type "tuple", data := .seq rest.toArray }).push { cls := .ref C, data := .fields #[.ref h.objs.size, .none, .none, .none, .bool false, .none] }) (typeOf (.ref (h.objs.size + 1))) (.ref C) := (Looks.ld hget).andThen .now
  have s1 : Looks (model prog w) ((h.push { cls := .type "tuple", data := .seq rest.toArray }).push { cls := .ref C, data := .fields #[.ref h.objs.size, .none, .none, .none, .bool false, .none] }) (isSubtype (.ref C) (.ref C)) true := fun A' Q' E' s' k q' => by
    obtain ⟨h', g', d', tk', os'⟩ := s'
    refine wpAny_isSubtype_exc (k _ _ hC₁) ?_
    rw [hcC]
    exact q'
  have i1 := hi.keeps kp
  have b1 := (hb (.ref (h.objs.size + 1))).keeps kp
  show wpAny _ _ _ _ _ ⟨(h.push { cls := .type "tuple", data := .seq rest.toArray }).push { cls := .ref C, data := .fields #[.ref h.objs.size, .none, .none, .none, .bool false, .none] }, g, d, t, os⟩
  unfold isInstance callSpecial? specialOf
  repeat (first | with_reducible refine wpAny_call ?_ | lk)
  refine codeAny_mono hq fun r s' z => ?_
  rcases r with e | (v | _ | _ | _) <;> first | exact z | exact z.elim | skip
  obtain ⟨rfl, z⟩ := z
  exact wpAny_pure (wpAny_pure z)
theorem exc_init' (F : ExcBaseFacts B newId initId bmB) (T : OwnTail h bmB bm) {e : Addr} {dx : Option Addr} {t0 : Addr} {a1 a2 a3 a4 a5 v : Value}
    (hC : h.get? C = some (excClassObj nm q C N bs bm hdct sn sub ab col dd k0 k1 k2 k3 k5 newId)) (he : h.get? e = some { cls := .ref C, dict := dx, data := .fields #[.ref t0, a1, a2, a3, a4, a5] })
    (hq : ∀ h', (∀ b o, b ≠ e → h.get? b = some o → h'.get? b = some o) → h'.get? e = some { cls := .ref C, dict := dx, data := .fields #[.ref h.objs.size, a1, a2, a3, a4, a5] } → R (.ok (.ret .none)) ⟨h', g, d, t, os⟩) :
    codeAny (model prog w) A (.call (.builtin initId) ⟨[.ref e, v], []⟩) R ⟨h, g, d, t, os⟩ := by
  refine (codeAny_call_builtin F.init.plain F.initEntry (wpAny_check_init_subT F T hC he rfl ?_))
  wp_walk
  have hne : e ≠ h.objs.size := Nat.ne_of_lt (Heap.lt_size he)
  refine hq _ (fun b o hb ho => ?_) ?_
  · rw [Heap.get?_update_other _ _ (Ne.symm hb)]
    exact Heap.get?_push_of_some _ ho
  · rw [Heap.get?_update_self _ (Heap.get?_push_of_some _ he) rfl]
    rfl
end
end L2

set_option maxHeartbeats 4000000
namespace L2
open PySem PySem.Spec PyProof.Rows PySem.W
section
variable {prog : Program} {w : World} {A : Around} {E : Value → Shared → Prop} {s : Shared} {K : Frag} {x C : Addr} {ox : Obj} {od : Option Obj} {name : Str} {expr : Bool} {Q : Value → Shared → Prop}
end
end L2

set_option maxHeartbeats 4000000
namespace L2
open PySem PySem.Spec PyProof.Rows PySem.W
section
variable {prog : Program} {w : World} {A : Around} {E : Value → Shared → Prop} {s : Shared} {K : Frag} {x C : Addr} {ox : Obj} {od : Option Obj} {name : Str} {expr : Bool} {Q : Value → Shared → Prop}
theorem exc_class (X : K.In s.heap) (I : PySem.W.InstAt s.heap x ox C od) (hga : findIn K (.ref C) "__getattribute__" = some (some (.builtin "BaseException.__getattribute__"))) (hb : mroIn K C (.type "BaseException") = some true) (hk : findIn K (.ref C) "__getattr__" = some none)
    (hf : findObj K C od "__class__" = some (.bind (.builtin "getset_descriptor.__get__") (.builtin "object.__class__"))) (hm : mroIn K C (.type "object") = some true) {Q : Option Value → Shared → Prop} (h : Q (some (.ref C)) { s with toks := s.toks + 1 }) : wpAny (model prog w) A (getAttr? (.ref x) "__class__") Q E s := by
  obtain ⟨hh', g, d, t, os⟩ := s
  have L0 := I.type (M := model prog w)
  have L1 := looks_findIn (M := model prog w) X hga
  have L2 := looks_find (M := model prog w) X I hf
  unfold getAttr? getAttrBy?
  refine wpAny_bind (wpAny_mkText (wpAny_bind (wpAny_attempt ?_)))
  unfold getAttrBy
  refine wpAny_holding (wpAny_bind (L0.at (wpAny_bind (L1.at ?_))))
  have LH : Looks (model prog w) hh' (hookBefore (.ref C)) none := looks_hook X (by simp only [onTheHeap]; exact hk)
  have LB : Looks (model prog w) hh' (isInstance (.ref x) (.type "BaseException")) true := L0.andThen (looks_mroIn X hb)
  show wpAny _ _ (getAttrByItsOwn (.ref x) (.str "__class__" t) (.ref C) (.builtin "BaseException.__getattribute__") false false) _ _ ⟨hh', g, d, t + 1, os⟩
  unfold getAttrByItsOwn
  refine wpAny_bind (LH.at (wpAny_bind (wpAny_attempt (wpAny_holding ?_))))
  have hx0 : (false && onTheHeap (Value.builtin "BaseException.__getattribute__")) = false := rfl
  have f3 := F.excAttr_ValueError.ga.bind (.ref x)
  unfold callGetattribute
  rw [hx0]
  repeat (any_goals (first | assumption | wp_step))
  show codeAny (model prog w) A (Code.call (Value.builtin "BaseException.__getattribute__") ⟨[.ref x, .str "__class__" t], []⟩) _ _
  have hk1 : builtinKind "BaseException.__getattribute__" = some .slot := by decide +kernel
  have hs1 : splitId "BaseException.__getattribute__" = some ("BaseException", "__getattribute__") := by decide +kernel
  have hc : ∀ (A' : Around) (Q' : Unit → Shared → Prop) (E' : Value → Shared → Prop), Q' () ⟨hh', g, d, t + 1, os⟩ → wpAny (model prog w) A' (checkBuiltinCall "BaseException.__getattribute__" ⟨[.ref x, .str "__class__" t], []⟩) Q' E' ⟨hh', g, d, t + 1, os⟩ := fun A' Q' E' q' =>
    @check_slot (model prog w) A' E' ⟨hh', g, d, t + 1, os⟩ "BaseException.__getattribute__" "BaseException" "__getattribute__" (.ref x) [.str "__class__" t] [] Q' hk1 hs1 LB (F.args_bexc_ga (.ref x) (.str "__class__" t)) q'
  refine codeAny_call_builtin F.excAttr_ValueError.ga.plain F.entry_bexc_ga (hc _ _ _ ?_)
  unfold Builtin.«object.__getattribute__»
  repeat (first | with_reducible refine wpAny_bind (L0.at ?_) | with_reducible refine wpAny_bind (L2.at ?_) | wp_step)
  refine class_get X I hm ?_
  repeat (first | exact h | wp_step)
theorem kitx_exc (hcl : (clsIn K C).isSome = true) (hga : findIn K (.ref C) "__getattribute__" = some (some (.builtin "BaseException.__getattribute__"))) (hb : mroIn K C (.type "BaseException") = some true) (hk : findIn K (.ref C) "__getattr__" = some none)
    (hm : mroIn K C (.type "object") = some true) (hf : ∀ od, findObj K C od "__class__" = some (.bind (.builtin "getset_descriptor.__get__") (.builtin "object.__class__"))) :
    KitX K (.ref x) (.ref C) (fun h => ∃ ox od, PySem.W.InstAt h x ox C od) where
  ty := fun _ _ _ I => let ⟨_, _, I⟩ := I; I.type
  it := fun _ _ X _ => by
    obtain ⟨cdD, hcD⟩ := Option.isSome_iff_exists.mp hcl
    unfold clsIn at hcD
    split at hcD
    · rename_i c' d' cd' sl' ho
      intro A' Q' E' s' k q
      unfold isType loadHead
      exact wpAny_bind (wpAny_loadPart (k _ _ (X _ _ ho)) (wpAny_pure q))
    · cases hcD
  ne := fun h tp dd its n sl X htp => by
    obtain ⟨cdD, hcD⟩ := Option.isSome_iff_exists.mp hcl
    refine Bool.eq_false_iff.mpr fun q => ?_
    have e : C = tp := Value.ref.inj (beq_iff_eq.mp q)
    subst e
    unfold clsIn at hcD
    split at hcD
    · rename_i c' d' cd' sl' ho
      have z := (X _ _ ho).symm.trans htp
      cases z
    · cases hcD
  ca := fun X I k => let ⟨_, _, I⟩ := I; exc_class X I hga hb hk (hf _) hm k
end
end L2

set_option maxHeartbeats 4000000
namespace L2
open PySem PySem.Spec PyProof.Rows PySem.W Builtin Builtin.ObjectAttr
noncomputable def onlyVE : List Value → Bool
  | .ref _ :: r => onlyVE r
  | l => l == [.type "ValueError", .type "Exception", .type "BaseException", .type "object"]
theorem onlyVE_ref (c : Addr) (r : List Value) : onlyVE (.ref c :: r) = onlyVE r := by rw [onlyVE]
theorem onlyVE_end : ∀ {l : List Value}, onlyVE l = true → (∃ c r, l = .ref c :: r) ∨ l = [.type "ValueError", .type "Exception", .type "BaseException", .type "object"]
  | .ref c :: r, _ => .inl ⟨c, r, rfl⟩
  | [], e => by cases e
  | .type n :: r, e => .inr (eq_of_beq (by unfold onlyVE at e; exact e))
  | .none :: r, e => .inr (eq_of_beq (by unfold onlyVE at e; exact e))
  | .bool _ :: r, e => .inr (eq_of_beq (by unfold onlyVE at e; exact e))
  | .int _ _ :: r, e => .inr (eq_of_beq (by unfold onlyVE at e; exact e))
  | .str _ _ :: r, e => .inr (eq_of_beq (by unfold onlyVE at e; exact e))
  | .builtin _ :: r, e => .inr (eq_of_beq (by unfold onlyVE at e; exact e))
  | .float _ _ :: r, e => .inr (eq_of_beq (by unfold onlyVE at e; exact e))
  | .bytes _ _ :: r, e => .inr (eq_of_beq (by unfold onlyVE at e; exact e))
  | .ellipsis :: r, e => .inr (eq_of_beq (by unfold onlyVE at e; exact e))
  | .notImplemented :: r, e => .inr (eq_of_beq (by unfold onlyVE at e; exact e))
theorem onlyVE_has : ∀ {l : List Value}, onlyVE l = true → l.contains (.type "object") = true
  | l, e => by
    rcases onlyVE_end e with ⟨c, r, rfl⟩ | rfl
    · rw [List.contains_cons, onlyVE_has (l := r) (by rw [onlyVE_ref] at e; exact e), Bool.or_true]
    · decide
termination_by l => l.length
noncomputable def overVE (K : Frag) (C : Addr) : Bool := (clsIn K C).any fun cd => onlyVE cd.mro
section
variable {prog : Program} {w : World} {A : Around} {s : Shared} {K : Frag} {x C : Addr} {R : Result → Shared → Prop}
end

section
variable {prog : Program} {w : World} {A : Around} {E : Value → Shared → Prop} {s : Shared} {K : Frag} {x C : Addr} {name : Str} {v : Value} {vs : Array Value}
end
end L2

set_option maxHeartbeats 4000000
namespace L2
open PySem PySem.Spec PyProof.Rows PySem.W
noncomputable def FlOk (fl : Bool) (dx : Option Addr) (a1 a2 : Value) : Prop := fl = true → a1 = .none ∧ a2 = .none
noncomputable def ExO (fl : Bool) (x C : Addr) (dx : Option Addr) : HO := .ext fun h => ∃ t0 a1 a2 a3 a4 a5, h.get? x = some (excObj C dx #[.ref t0, a1, a2, a3, a4, a5]) ∧ FlOk fl dx a1 a2
noncomputable def XdO (p : Addr) (fs : List (Str × V)) : HO := .ext fun h => ∃ mA, h.Ns1 p mA ∧ (∀ f, RelO (fs.lookup f) (mA f)) ∧ Within mA (fs.map (·.1))
section
variable {P : Program} {w : World} {H : Hp} {h : Heap} {fl : Bool} {x p C : Addr} {dx : Option Addr} {fs : List (Str × V)}
theorem exO_ok {t0 : Addr} {a1 a2 a3 a4 a5 : Value} (e : h.get? x = some (excObj C dx #[.ref t0, a1, a2, a3, a4, a5])) (hfl : FlOk fl dx a1 a2) : ObjOk P w H h x (ExO fl x C dx) :=
  ⟨⟨_, _, _, _, _, _, e, hfl⟩, ⟨_, e⟩, fun h1 h2 ⟨t0, a1, a2, a3, a4, a5, q, z⟩ k => ⟨t0, a1, a2, a3, a4, a5, k _ q, z⟩⟩
theorem exO_get (hok : HOk P w H h) (e : H x = some (ExO fl x C dx)) : ∃ t0 a1 a2 a3 a4 a5, h.get? x = some (excObj C dx #[.ref t0, a1, a2, a3, a4, a5]) ∧ FlOk fl dx a1 a2 := (show ObjOk P w H h x (ExO fl x C dx) from hok x _ e).1
theorem xdO_get (hok : HOk P w H h) (e : H p = some (XdO p fs)) : ∃ mA, h.Ns1 p mA ∧ (∀ f, RelO (fs.lookup f) (mA f)) ∧ Within mA (fs.map (·.1)) := (show ObjOk P w H h p (XdO p fs) from hok p _ e).1
end
structure ClsX (K : Frag) (C : Addr) : Prop where
  ga : findIn K (.ref C) "__getattribute__" = some (some (.builtin "BaseException.__getattribute__"))
  bx : mroIn K C (.type "BaseException") = some true
  nga : findIn K (.ref C) "__getattr__" = some none
  ob : mroIn K C (.type "object") = some true
  hd : hasDictIn K C = true
  ov : overVE K C = true
  sa : findIn K (.ref C) "__setattr__" = some (some (.builtin "object.__setattr__"))
  cl : findIn K (.ref C) "__class__" = some (some (.builtin "object.__class__"))
  cg : specialIn K (.builtin "object.__class__") "__get__" = some (some (.builtin "getset_descriptor.__get__"))
  ct : takesIn K (.builtin "object.__class__") = some true
theorem ClsX.cls {K : Frag} {C : Addr} (c : ClsX K C) : (clsIn K C).isSome = true := by
  obtain ⟨cd, hc, _⟩ := any_some c.hd
  rw [hc]; rfl
theorem ClsX.fo {K : Frag} {C : Addr} (c : ClsX K C) (od : Option Obj) : findObj K C od "__class__" = some (.bind (.builtin "getset_descriptor.__get__") (.builtin "object.__class__")) := by
  obtain ⟨cd, hc, _⟩ := any_some c.hd
  unfold findObj
  rw [hc, Option.bind_some, c.cl, Option.bind_some]
  dsimp only
  rw [c.cg, Option.bind_some]
  dsimp only
  rw [c.ct, Option.bind_some]
section
variable {X : Cx} {pins : List (Addr × Obj)} {σ : St} {H : Hp} {s : Shared} {fl : Bool} {a C dx : Addr} {fs : List (Str × V)} {f : Str} {v : V} {A : Around} {E : Value → Shared → Prop}
theorem xinst_ok {dx : Option Addr} {c : Value} {b : Bool} {Q : Value → Shared → Prop} (I : Inv X pins σ H s) (e : H a = some (ExO fl a C dx)) (cl : ClsX X.K C) (k : kitOne X.K (.ref C) c = some b) (dxd : ∀ p, dx = some p → ∃ fs, H p = some (XdO p fs))
    (h : ∀ tk, Q (.bool b) { s with toks := tk }) : wpAny (model X.prog X.w) A (call (.builtin "isinstance") [.ref a, c]) Q E s := by
  obtain ⟨t0, a1, a2, a3, a4, a5, hx, hfl⟩ := exO_get I.hok e
  have J : ∃ ox od, PySem.W.InstAt s.heap a ox C od := by
    cases dx with
    | none => exact ⟨_, none, hx, rfl, rfl, True.intro⟩
    | some p =>
      obtain ⟨fs, d⟩ := dxd p rfl
      obtain ⟨mA, hn, _⟩ := xdO_get I.hok d
      obtain ⟨od, ho, _⟩ := lookIn_ns hn
      exact ⟨_, some od, hx, rfl, rfl, ho⟩
  exact kia_one (kitx_exc cl.cls cl.ga cl.bx cl.nga cl.ob cl.fo) I.kIn J k (fun z => nomatch z) h
end
noncomputable def clsV : V → Option Value
  | .ref a => some (.ref a)
  | .ty n => some (.type n)
  | _ => none
theorem clsV_eq {y : V} {c u : Value} (e : clsV y = some c) (r : RelV y u) : u = c := by
  cases y <;> cases e <;> exact r
noncomputable def rInstX (K : Frag) : List V → Hp → VK → Prop := fun xs H Q => ∃ fl a C dx y c b, xs = [.ref a, y] ∧ clsV y = some c ∧ H a = some (ExO fl a C dx) ∧ (∀ p, dx = some p → ∃ fs, H p = some (XdO p fs)) ∧ ClsX K C ∧ kitOne K (.ref C) c = some b ∧ Q (.bl b) H
section
variable {X : Cx} {o e value : Expr} {f : Str} {pos pos' tpos : Pos} {ta tv : TE}
theorem call_instX : CallR X (.builtin "isinstance") (rInstX X.K) := by
  intro pins s σ H xs us Q I r h
  obtain ⟨fl, a, C, dx, y, c, b, rfl, ry, ea, ed, cl, k, q⟩ := h
  obtain ⟨u, u2, rfl, rx, ry2⟩ := vals2 r
  obtain rfl : u = Value.ref a := rx
  obtain rfl := clsV_eq ry ry2
  exact xinst_ok I ea cl k ed fun tk => ⟨.bl b, H, I.tok tk, rfl, q⟩
end
end L2

set_option maxHeartbeats 4000000
namespace L2
open PySem PySem.Spec PyProof.Rows PySem.W
noncomputable abbrev TJ := Str → St → Hp → VK → Prop
section
variable {X : Cx} {e v1 v2 : Expr} {es : List Expr} {te : TE} {tr : TJ} {pos : Pos}
end
noncomputable abbrev veMro : List Value := [.type "ValueError", .type "Exception", .type "BaseException", .type "object"]
noncomputable def ExC (K : Frag) (C : Addr) : Prop := ∃ nm q N bs bm hdct sn sub ab col dd k0 k1 k2 k3 k5, K.lookup C = some (excClassObj nm q C N bs bm hdct sn sub ab col dd k0 k1 k2 k3 k5 "ValueError.__new__") ∧ ∀ h, K.In h → OwnTail h veMro bm
theorem upd_self {H : Hp} {a : Addr} {o : HO} (e : H a = some o) : upd H a o = H := by
  funext b
  by_cases hb : b = a
  · subst hb; rw [upd_same, e]
  · rw [upd_ne hb]
section
variable {X : Cx} {pins : List (Addr × Obj)} {σ : St} {H : Hp} {s : Shared} {fl : Bool} {a C B : Addr} {dx : Option Addr} {A : Around} {E : Value → Shared → Prop}
end
end L2

set_option maxHeartbeats 4000000
namespace L2
open PySem PySem.Spec PyProof.Rows PySem.W
noncomputable def tMakeX0 (C : Addr) (t : TA) : TE := fun σ H Q => t σ H fun vs H1 => vs.length = 1 ∧ ∀ x, H1 x = none → Q (.ref x) (upd H1 x (ExO true x C none))
section
variable {X : Cx} {CX : CXT} {k : Nat} {f C : Addr} {fd : FuncData} {ps : List Str} {sp : Sp} {dvs : List V} {ds : List Value} {E : XK} {x : Str} {p pos : Pos} {e : Expr} {es : List Expr} {t : TA}
theorem Inv.madeX {pins : List (Addr × Obj)} {σ : St} {H : Hp} {s : Shared} {us : List Value} (I : Inv X pins σ H s) : Inv X pins σ (upd H (s.heap.objs.size + 1) (ExO true (s.heap.objs.size + 1) C none))
    { s with heap := (s.heap.push { cls := .type "tuple", data := .seq us.toArray }).push (excObj C none #[.ref s.heap.objs.size, .none, .none, .none, .bool false, .none]) } := by
  have hget : ((s.heap.push { cls := .type "tuple", data := .seq us.toArray }).push (excObj C none #[.ref s.heap.objs.size, .none, .none, .none, .bool false, .none])).get? (s.heap.objs.size + 1) = some (excObj C none #[.ref s.heap.objs.size, .none, .none, .none, .bool false, .none]) := by heap_get
  exact I.laid (a := s.heap.objs.size + 1) (t' := s.toks) (fun b u q => Heap.get?_push_of_some _ (Heap.get?_push_of_some _ q)) (Nat.le_succ _) (exO_ok hget (fun _ => ⟨rfl, rfl⟩))
theorem pe_makeX0 (c : ExC X.K C) (hi : findIn X.K (.ref C) "__init__" = some (some (.builtin "ValueError.__init__"))) (hkp : keepIn X.K (.ref C) = true) (hg : Gl X x) (hm : X.mg x = some (.ref C))
    (ha : PA X (e :: es) t) (hdb : (x == ("__debug__" : Str)) = false := by decide) (he : starEach (e :: es) X.env = (false, eval e X.env) :: starEach es X.env := by rfl) (hpl : (backTo pos (starEach es X.env)).any (·.1) = false := by rfl) :
    PE X (.Call (.Name x p) (e :: es) [] pos) (tMakeX0 C t) := by
  intro pins s σ H Q I h
  refine wpAny_Call_Name_kw (ld_glob I hg hm ?_ hdb)
  refine PySem.W.callWith_K (h₀ := X.base) I.ok.mod.kin hkp (thn (ha pos pins s σ H _ I h) fun us s1 ⟨vs, H1, I1, r, hl1, q⟩ => ⟨I1.kIn, ?_⟩) he hpl
  obtain ⟨u, rfl⟩ : ∃ u, us = [u] := List.length_eq_one_iff.mp (r.length.symm.trans hl1)
  have hq := q (s1.heap.objs.size + 1) (I1.hok.fresh (Nat.le_succ _))
  have I2 := Inv.madeX (C := C) (us := [u]) I1
  obtain ⟨nm, q', N, bs, bm, hdct, sn, sub, ab, col, dd, k0, k1, k2, k3, k5, hc, T⟩ := c
  have hx : (upd H1 (s1.heap.objs.size + 1) (ExO true (s1.heap.objs.size + 1) C none)) (s1.heap.objs.size + 1) = some (ExO true (s1.heap.objs.size + 1) C none) := upd_same
  refine wpAny_call (exc_make PySem.F.excBase_ValueError (T _ I1.kIn) (I1.kIn _ _ hc) (looks_findIn I1.kIn hi) (fun self => Looks.of_pure (PySem.F.excBase_ValueError.init.bind self)) (show 1 ≤ sizeLine by decide) ?_)
  have hget : ((s1.heap.push { cls := .type "tuple", data := .seq [u].toArray }).push (excObj C none #[.ref s1.heap.objs.size, .none, .none, .none, .bool false, .none])).get? (s1.heap.objs.size + 1) = some (excObj C none #[.ref s1.heap.objs.size, .none, .none, .none, .bool false, .none]) := by heap_get
  refine exc_init' PySem.F.excBase_ValueError (T _ I2.kIn) (I2.kIn _ _ hc) hget fun h' k hx' => ⟨rfl, V.ref (s1.heap.objs.size + 1), _, ?_, rfl, hq⟩
  have z := I2.write (x := s1.heap.objs.size + 1) (e := s1.heap.objs.size + 1) (o := ExO true (s1.heap.objs.size + 1) C none) (t' := s1.toks) (h' := h') (by rw [hx]; exact True.intro) (.inl rfl) (fun b o hb q => k b o hb q) ⟨_, hx'⟩ (exO_ok hx' (fun _ => ⟨rfl, rfl⟩))
  rwa [upd_self hx] at z
end
end L2

set_option maxHeartbeats 4000000
namespace L2
open PySem PySem.Spec PyProof.Rows PySem.W
noncomputable def strKeysB (es : Array DictEntry) : Bool := es.toList.all fun e => match e.key with | .str _ _ => true | _ => false
theorem strKeys_of {es : Array DictEntry} (e : strKeysB es = true) : StrKeys es := by
  intro d hd
  have := List.all_eq_true.mp e d (Array.mem_toList_iff.mpr hd)
  split at this
  · rename_i x t q; exact ⟨x, t, q⟩
  · cases this
theorem ns_of {K : Frag} {N : Addr} {oN : Value} {dN : Option Addr} {es : Array DictEntry} {nn : Nat} {sl : Array (Option Value)} {h : Heap} (X : K.In h) (l : K.lookup N = some ⟨oN, dN, .dict es nn, sl⟩) (e : strKeysB es = true) : h.Ns N (nsFind es) :=
  ⟨_, es, nn, X _ _ l, rfl, strKeys_of e, fun _ => rfl⟩
section
variable {K : Frag} {C D N HE M : Addr} {nm q nm' q' : Str} {bs bs' bm bm' : List Value} {sn sn' : List Str} {sub sub' : List Value} {ab ab' hdct hdct' : Bool} {col col' : Option Bool} {dd dd' : Option Addr} {k0 k1 k2 k3 k5 j0 j1 j2 j3 j5 : Option Value} {oN : Value} {dN : Option Addr} {es : Array DictEntry} {nn : Nat} {sl : Array (Option Value)} {i i' : String}
theorem exC_he (l : K.lookup HE = some (excClassObj nm q HE N bs veMro hdct sn sub ab col dd k0 k1 k2 k3 k5 "ValueError.__new__")) : ExC K HE :=
  ⟨_, _, _, _, _, _, _, _, _, _, _, _, _, _, _, _, l, fun h X => .base⟩
theorem exC_sub (l : K.lookup HE = some (excClassObj nm q HE N bs veMro hdct sn sub ab col dd k0 k1 k2 k3 k5 i)) (n : K.lookup N = some ⟨oN, dN, .dict es nn, sl⟩) (e : strKeysB es = true) (hi : nsFind es "__init__" = none)
    (l' : K.lookup C = some (excClassObj nm' q' C M bs' (.ref HE :: veMro) hdct' sn' sub' ab' col' dd' j0 j1 j2 j3 j5 "ValueError.__new__")) : ExC K C :=
  ⟨_, _, _, _, _, _, _, _, _, _, _, _, _, _, _, _, l', fun h X => .own (X _ _ l) (ns_of X n e) hi .base⟩
theorem clsIn_of (l : K.lookup C = some (excClassObj nm q C N bs bm hdct sn sub ab col dd k0 k1 k2 k3 k5 i)) : ∃ cd, clsIn K C = some cd ∧ cd.mro = .ref C :: bm ∧ cd.hasDict = hdct := ⟨_, by unfold clsIn; rw [l], rfl, rfl⟩
theorem mro_of {b : Value} (l : K.lookup C = some (excClassObj nm q C N bs bm hdct sn sub ab col dd k0 k1 k2 k3 k5 i)) : mroIn K C b = some ((Value.ref C :: bm).contains b) := by
  obtain ⟨cd, h1, h2, _⟩ := clsIn_of l
  unfold mroIn
  rw [h1, Option.bind_some, h2, if_neg (by simp)]
theorem kit_ref (l : K.lookup C = some (excClassObj nm q C N bs bm hdct sn sub ab col dd k0 k1 k2 k3 k5 i)) (l' : K.lookup D = some (excClassObj nm' q' D M bs' bm' hdct' sn' sub' ab' col' dd' j0 j1 j2 j3 j5 i')) :
    kitOne K (.ref C) (.ref D) = some ((Value.ref C :: bm).contains (.ref D)) := by
  unfold kitOne
  by_cases e : (Value.ref C == Value.ref D) = true
  · rw [if_pos e, eq_of_beq e]; simp
  · rw [if_neg e]
    obtain ⟨cd, h1, _⟩ := clsIn_of l'
    have h2 : typeIn K (.ref D) = some (.type "type") := by show (K.lookup D).map (·.cls) = _; rw [l']; rfl
    show (if ((clsIn K D).isSome && typeIn K (.ref D) == some (.type "type")) = true then mroIn K C (.ref D) else none) = _
    rw [h1, h2, if_pos (by simp), mro_of l]
theorem kit_ve {n : String} (hn : kitMeta n = true) (l : K.lookup C = some (excClassObj nm q C N bs bm hdct sn sub ab col dd k0 k1 k2 k3 k5 i)) : kitOne K (.ref C) (.type n) = some ((Value.ref C :: bm).contains (.type n)) := by
  unfold kitOne
  rw [if_neg (by intro z; cases eq_of_beq z)]
  show (if kitMeta n = true then mroIn K C (.type n) else none) = _
  rw [if_pos hn, mro_of l]
theorem clsX_of (l : K.lookup C = some (excClassObj nm q C N bs bm true sn sub ab col dd k0 k1 k2 k3 k5 i)) (hb : onlyVE bm = true) (hbe : bm.contains (.type "BaseException") = true)
    (ga : findIn K (.ref C) "__getattribute__" = some (some (.builtin "BaseException.__getattribute__"))) (nga : findIn K (.ref C) "__getattr__" = some none)
    (sa : findIn K (.ref C) "__setattr__" = some (some (.builtin "object.__setattr__"))) (cl : findIn K (.ref C) "__class__" = some (some (.builtin "object.__class__")))
    (cg : specialIn K (.builtin "object.__class__") "__get__" = some (some (.builtin "getset_descriptor.__get__"))) (ct : takesIn K (.builtin "object.__class__") = some true) : ClsX K C := by
  obtain ⟨cd, h1, h2, h3⟩ := clsIn_of l
  refine ⟨ga, ?_, nga, ?_, ?_, ?_, sa, cl, cg, ct⟩
  · rw [mro_of l, List.contains_cons, hbe, Bool.or_true]
  · rw [mro_of l, List.contains_cons, onlyVE_has hb, Bool.or_true]
  · unfold hasDictIn; rw [h1]; exact h3
  · unfold overVE; rw [h1]; show onlyVE cd.mro = true; rw [h2, onlyVE_ref]; exact hb
end
end L2
namespace L2
open PySem PySem.Spec PyProof.Rows PySem.W
theorem boot_ValueError : bootBuiltins "ValueError" = some (.type "ValueError") := by decide +kernel
section
variable {X : Cx} {k : Nat} {f C : Addr} {fd : FuncData} {ps : List Str} {sp : Sp} {x qual : Str} {st : Stmt} {p pos pos' : Pos} {e o value : Expr} {es : List Expr} {t : TA} {ta tv : TE} {g : Str}
theorem pgl_ref {y : Addr} (h : X.mg x = some (.ref y)) (hg : Gl X x := by rfl) (hd : (x == ("__debug__" : Str)) = false := by decide) : PE X (.Name x pos) (tC (.ref y)) := pe_glob hg h rfl hd
end
structure Fam (K : Frag) (C : Nat → Addr) : Prop where
  x : ∀ i, i ≤ 13 → ClsX K (C i)
  c : ∀ i, i ≤ 13 → ExC K (C i)
  k : ∀ i j, i ≤ 13 → j ≤ 13 → kitOne K (.ref (C i)) (.ref (C j)) = some (decide (i = j) || decide (j = 13))
  v : ∀ i, i ≤ 13 → kitOne K (.ref (C i)) (.type "ValueError") = some true
noncomputable def IsX (fl : Bool) (C : Nat → Addr) (H : Hp) (a : Addr) (i : Nat) (fs : List (Str × V)) : Prop := ∃ dx, H a = some (ExO fl a (C i) dx) ∧ ((dx = none ∧ fs = []) ∨ ∃ p, dx = some p ∧ H p = some (XdO p fs))
theorem IsX.same {fl : Bool} {C : Nat → Addr} {H H' : Hp} {a : Addr} {i : Nat} {fs : List (Str × V)} (x : IsX fl C H a i fs) (s : Same H H') : IsX fl C H' a i fs := by
  obtain ⟨dx, h1, h2⟩ := x
  exact ⟨dx, s _ _ h1, h2.imp id fun ⟨p, e, h3⟩ => ⟨p, e, s _ _ h3⟩⟩
theorem IsX.inst {K : Frag} {fl : Bool} {C : Nat → Addr} {H : Hp} {a : Addr} {i j : Nat} {fs : List (Str × V)} {Q : VK} (x : IsX fl C H a i fs) (F : Fam K C) (hi : i ≤ 13) (hj : j ≤ 13) (q : Q (.bl (decide (i = j) || decide (j = 13))) H) : rInstX K [.ref a, .ref (C j)] H Q := by
  obtain ⟨dx, h1, h2⟩ := x
  refine ⟨fl, a, _, dx, _, _, _, rfl, rfl, h1, fun p e => ?_, F.x i hi, F.k i j hi hj, q⟩
  rcases h2 with ⟨z, _⟩ | ⟨p', e', h3⟩
  · rw [z] at e; cases e
  · rw [e'] at e; cases e; exact ⟨_, h3⟩
end L2

set_option maxHeartbeats 4000000
namespace L2
open PySem PySem.Spec PyProof.Rows PySem.W
theorem IsX.dict {fl : Bool} {C : Nat → Addr} {H : Hp} {a : Addr} {i : Nat} {fs : List (Str × V)} (x : IsX fl C H a i fs) : ∃ dx, H a = some (ExO fl a (C i) dx) ∧ ∀ p, dx = some p → ∃ fs, H p = some (XdO p fs) := by
  obtain ⟨dx, h1, h2⟩ := x
  refine ⟨dx, h1, fun p e => ?_⟩
  rcases h2 with ⟨z, _⟩ | ⟨p', e', h3⟩
  · rw [z] at e; cases e
  · rw [e'] at e; cases e; exact ⟨_, h3⟩
end L2

set_option maxHeartbeats 4000000
namespace L2
open PySem PySem.Spec PyProof.Rows PySem.W
noncomputable def ClAt (K : Frag) (C : Addr) (bm : List Value) : Prop := ∃ nm q N bs sn sub ab col dd k0 k1 k2 k3 k5, K.lookup C = some (excClassObj nm q C N bs bm true sn sub ab col dd k0 k1 k2 k3 k5 "ValueError.__new__")
theorem ve_ref (a : Addr) : veMro.contains (.ref a) = false := rfl
end L2

set_option maxHeartbeats 4000000
namespace L2
open PySem PySem.Spec PyProof.Rows PySem.W
structure Noted (fr : List Addr) (e : Addr) (old : Option Addr) (h h' : Heap) : Prop where
  keep : ∀ b o, h.get? b = some o → b ≠ e → some b ≠ old → b ∉ fr → h'.get? b = some o
  slot : ∀ b o, h.get? b = some o → b ≠ e → some b ≠ old → ∃ sl, h'.get? b = some { o with slots := sl }
  there : ∀ b o, h.get? b = some o → ∃ o', h'.get? b = some o'
  size : h.objs.size ≤ h'.objs.size
noncomputable def TbAt (h : Heap) (T : Addr) : Prop := ∃ oT ts, h.get? T = some oT ∧ oT.data = .fields ts ∧ ts[3]? = some .none
theorem setF {o : Obj} {vs : Array Value} (hd : o.data = .fields vs) (f : Array Value → Array Value) : Obj.mapFields f o = { o with data := .fields (f vs) } := by
  obtain ⟨c, d, dt, sl⟩ := o
  cases (show dt = .fields vs from hd)
  rfl
theorem unfreed {o : Obj} {vs : Array Value} (hd : o.data = .fields vs) : o.isFreed = false := Obj.isFreed_of_fields hd
section
variable {M : Model} {A : Around} {E : Value → Shared → Prop} {s : Shared} {base : Heap} {env : Env} {outer : List Env} {L e : Addr} {oe : Obj} {vs : Array Value} {Q : Unit → Shared → Prop}
theorem note_go {head : Value} {nx : Bool} (hfr : A.frames = some (env :: outer)) (hl : s.heap.FunFrames base (env :: outer)) (hf : env.frame = some L) (he : s.heap.get? e = some oe) (hd : oe.data = .fields vs) (hsz : 1 < vs.size)
    (h : ∀ h' T, Noted (frs (env :: outer)) e none s.heap h' → h'.get? e = some { oe with data := .fields (vs.setIfInBounds 1 (.ref T)) } → s.heap.objs.size ≤ T → TbAt h' T → Q () { s with heap := h' }) :
    wpAny M A (do
      let a ← frameOf env
      let pl ← entryPlaceOf L nx
      let b ← EntryCells.newEntry head a .none (rawInt L) .none pl
      setField (.ref e) 1 b) (fun _ s' => wpAny M A (setFlight (.ref e) none) Q E s') E s := by
  have en : e ∉ frs (env :: outer) := fun hm => by
    obtain ⟨_, o, ho, hn⟩ := hl.mem hm
    rw [he] at ho; cases ho; exact hn vs hd
  have elt : e < s.heap.objs.size := Heap.lt_size he
  refine wpAny_bind (wpAny_frameOf_fun hfr hl hf fun g1 G1 => ?_)
  refine wpAny_bind (wpAny_entryPlaceOf fun pl hpl => ?_)
  unfold EntryCells.newEntry newFields
  refine wpAny_bind (wpAny_newObj_type ?_ (hpl.sizeOk5 _ _ _ _ _))
  have e1 : g1.get? e = some oe := (G1.2.1 e en).trans he
  have z1 : g1.objs.size = s.heap.objs.size := G1.1
  have hts : (([head, .ref L, .none, rawInt L, .none] ++ (if pl.isEmpty then List.replicate 6 Value.none else pl)).toArray : Array Value).size > 3 := by
    simp only [List.size_toArray, List.length_append, List.length_cons, List.length_nil]
    omega
  generalize (([head, .ref L, .none, rawInt L, .none] ++ (if pl.isEmpty then List.replicate 6 Value.none else pl)).toArray : Array Value) = tv at hts
  have t2 := Heap.get?_push_size g1 (o := { cls := .type "traceback", dict := none, data := .fields tv }) rfl
  have k2 : ∀ b o, g1.get? b = some o → (g1.push { cls := .type "traceback", dict := none, data := .fields tv }).get? b = some o := fun b o q => Heap.get?_push_of_some _ q
  have z2 : (g1.push { cls := .type "traceback", dict := none, data := .fields tv }).objs.size = g1.objs.size + 1 := Heap.size_push _ _
  generalize g1.push { cls := .type "traceback", dict := none, data := .fields tv } = g2 at t2 k2 z2
  have Tne : g1.objs.size ≠ e := Nat.ne_of_gt (by rw [z1]; exact elt)
  refine wpAny_setField (k2 _ _ e1) hd hsz ?_
  have e3 := Heap.get?_update_self (h := g2) (Obj.mapFields (·.setIfInBounds 1 (Value.ref g1.objs.size))) (k2 _ _ e1) (by rw [setF hd]; exact unfreed rfl)
  rw [setF hd] at e3
  have o3 : ∀ b, b ≠ e → (g2.update e (Obj.mapFields (·.setIfInBounds 1 (Value.ref g1.objs.size)))).get? b = g2.get? b := fun b hb => Heap.get?_update_other _ _ (Ne.symm hb)
  have z3 : (g2.update e (Obj.mapFields (·.setIfInBounds 1 (Value.ref g1.objs.size)))).objs.size = g2.objs.size := by cases g2; simp [Heap.update]
  generalize g2.update e (Obj.mapFields (·.setIfInBounds 1 (Value.ref g1.objs.size))) = g3 at e3 o3 z3
  unfold setFlight
  refine wpAny_bind (wpAny_field e3 rfl (x := .ref g1.objs.size) (by simp [hsz]) ?_)
  rw [if_pos (show (Value.ref g1.objs.size != Value.none) = true from by simp)]
  have t3 := (o3 _ Tne).trans t2
  refine wpAny_setField t3 rfl hts ?_
  have t4 := Heap.get?_update_self (h := g3) (Obj.mapFields (·.setIfInBounds 3 ((none : Option Addr).elim Value.none fun f => rawInt f))) t3 (unfreed rfl)
  have o4 : ∀ b, b ≠ g1.objs.size → (g3.update g1.objs.size (Obj.mapFields (·.setIfInBounds 3 ((none : Option Addr).elim Value.none fun f => rawInt f)))).get? b = g3.get? b := fun b hb => Heap.get?_update_other _ _ (Ne.symm hb)
  have z4 : (g3.update g1.objs.size (Obj.mapFields (·.setIfInBounds 3 ((none : Option Addr).elim Value.none fun f => rawInt f)))).objs.size = g3.objs.size := by cases g3; simp [Heap.update]
  generalize g3.update g1.objs.size (Obj.mapFields (·.setIfInBounds 3 ((none : Option Addr).elim Value.none fun f => rawInt f))) = g4 at t4 o4 z4
  have all : ∀ b o, b ≠ e → g1.get? b = some o → g4.get? b = some o := fun b o hb q => by
    rw [o4 b (Nat.ne_of_lt (Heap.lt_size q)), o3 b hb]; exact k2 b o q
  have e4 : g4.get? e = some { oe with data := .fields (vs.setIfInBounds 1 (.ref g1.objs.size)) } := (o4 e (Ne.symm Tne)).trans e3
  refine h g4 g1.objs.size ⟨fun b o q hb _ hn => all b o hb ((G1.2.1 b hn).trans q), fun b o q hb _ => ?_, fun b o q => ?_, by omega⟩ e4 (by omega) ⟨_, _, t4, rfl, by simp [hts]⟩
  · obtain ⟨sl, q1⟩ := G1.2.2 b o q
    exact ⟨sl, all b _ hb q1⟩
  · by_cases hb : b = e
    · subst hb; exact ⟨_, e4⟩
    · obtain ⟨sl, q1⟩ := G1.2.2 b o q
      exact ⟨_, all b _ hb q1⟩
theorem note_first (hfr : A.frames = some (env :: outer)) (hl : s.heap.FunFrames base (env :: outer)) (hf : env.frame = some L) (he : s.heap.get? e = some oe) (hd : oe.data = .fields vs) (h1 : vs[1]? = some .none)
    (h : ∀ h' T, Noted (frs (env :: outer)) e none s.heap h' → h'.get? e = some { oe with data := .fields (vs.setIfInBounds 1 (.ref T)) } → s.heap.objs.size ≤ T → TbAt h' T → Q () { s with heap := h' }) :
    wpAny M A (noteFrame (.ref e) env) (fun _ s' => wpAny M A (setFlight (.ref e) none) Q E s') E s := by
  unfold noteFrame
  simp only [hf]
  refine wpAny_bind (wpAny_field he hd h1 ?_)
  rw [if_neg (by decide)]
  exact note_go hfr hl hf he hd (Array.getElem?_eq_some_iff.mp h1).1 h
theorem note_next {T0 : Addr} (hfr : A.frames = some (env :: outer)) (hl : s.heap.FunFrames base (env :: outer)) (hf : env.frame = some L) (he : s.heap.get? e = some oe) (hd : oe.data = .fields vs) (h1 : vs[1]? = some (.ref T0)) (hT : TbAt s.heap T0) (hne : T0 ≠ e)
    (h : ∀ h' T, Noted (frs (env :: outer)) e (some T0) s.heap h' → h'.get? e = some { oe with data := .fields (vs.setIfInBounds 1 (.ref T)) } → s.heap.objs.size ≤ T → TbAt h' T → Q () { s with heap := h' }) :
    wpAny M A (noteFrame (.ref e) env) (fun _ s' => wpAny M A (setFlight (.ref e) none) Q E s') E s := by
  obtain ⟨oT, ts, hT, hdT, h3⟩ := hT
  unfold noteFrame
  simp only [hf]
  refine wpAny_bind (wpAny_field he hd h1 ?_)
  rw [if_pos (show (Value.ref T0 != Value.none) = true from by simp)]
  refine wpAny_bind (wpAny_field hT hdT h3 ?_)
  rw [if_neg (show ¬ ((Value.none == rawInt L) = true) from by simp [rawInt])]
  refine wpAny_bind (wpAny_setField hT hdT (Array.getElem?_eq_some_iff.mp h3).1 ?_)
  have Tf : T0 ∉ frs (env :: outer) := fun hm => by
    obtain ⟨_, o, ho, hn⟩ := hl.mem hm
    rw [hT] at ho; cases ho; exact hn ts hdT
  have t1 := Heap.get?_update_self (h := s.heap) (Obj.mapFields (·.setIfInBounds 3 Value.none)) hT (by rw [setF hdT]; exact unfreed rfl)
  have o1 : ∀ b, b ≠ T0 → (s.heap.update T0 (Obj.mapFields (·.setIfInBounds 3 Value.none))).get? b = s.heap.get? b := fun b hb => Heap.get?_update_other _ _ (Ne.symm hb)
  have z1 : (s.heap.update T0 (Obj.mapFields (·.setIfInBounds 3 Value.none))).objs.size = s.heap.objs.size := by cases s.heap; simp [Heap.update]
  generalize s.heap.update T0 (Obj.mapFields (·.setIfInBounds 3 Value.none)) = g at t1 o1 z1
  refine note_go (s := { s with heap := g }) hfr (hl.of_keeps fun b o q hn => ⟨o, (o1 b fun z => ?_).trans q, rfl⟩) hf ((o1 e (Ne.symm hne)).trans he) hd (Array.getElem?_eq_some_iff.mp h1).1 fun h' T N x hz tb => h h' T ⟨fun b o q hb hT0 hn => ?_, fun b o q hb hT0 => ?_, fun b o q => ?_, Nat.le_trans (Nat.le_of_eq z1.symm) N.size⟩ x (Nat.le_trans (Nat.le_of_eq z1.symm) hz) tb
  · subst z; rw [hT] at q; cases q; exact hn ts hdT
  · exact N.keep b o ((o1 b fun z => hT0 (by rw [z])).trans q) hb (by simp) hn
  · exact N.slot b o ((o1 b fun z => hT0 (by rw [z])).trans q) hb (by simp)
  · by_cases z : b = T0
    · subst z; exact N.there _ _ t1
    · exact N.there _ _ ((o1 b z).trans q)
end
end L2

set_option maxHeartbeats 4000000
namespace L2
open PySem PySem.Spec PyProof.Rows PySem.W
theorem noted_ok {P : Program} {w : World} {H : Hp} {h h' : Heap} {fr : List Addr} {x C : Addr} {dx old : Option Addr} (ok : HOk P w H h) (N : Noted fr x old h h') (hx : H x = some (ExO false x C dx))
    (hx' : ∃ t0 a1 a2 a3 a4 a5, h'.get? x = some (excObj C dx #[.ref t0, a1, a2, a3, a4, a5])) (hfr : ∀ b ∈ fr, H b = none) (hold : ∀ T, old = some T → H T = none) : HOk P w H h' := fun a o e => by
  by_cases ha : a = x
  · subst ha
    rw [hx] at e
    cases e
    obtain ⟨t0, a1, a2, a3, a4, a5, q⟩ := hx'
    exact exO_ok q fun z => (by cases z)
  · refine (ok a o e).stay (fun b u hb q => ?_) (fun _ q => q) fun _ _ q => q
    have hbn : ∃ v, H b = some v := by
      rcases hb with rfl | hb
      · exact ⟨_, e⟩
      · exact ⟨_, hb⟩
    obtain ⟨v, hv⟩ := hbn
    refine N.keep b u q (fun z => ?_) (fun z => ?_) (fun z => ?_)
    · subst z
      rcases hb with z | hb
      · exact ha z.symm
      · rw [hx] at hb; cases hb
    · have := hold b z.symm
      rw [hv] at this; cases this
    · have := hfr b z
      rw [hv] at this; cases this
theorem noted_un {fs fr : List Addr} {H0 H1 : Hp} {h0 h1 h2 : Heap} {x : Addr} {old : Option Addr} {o : HO} (u : Un fs [] H0 H1 h0 h1) (N : Noted fr x old h1 h2) (hx : H1 x = some o)
    (hT : ∀ T, old = some T → h0.objs.size ≤ T) (hfr : ∀ b ∈ fr, b ∈ fs ∨ h0.objs.size ≤ b) : Un fs [] H0 H1 h0 h2 where
  keep := fun b ob q n hb he => by
    refine N.keep b ob (u.keep b ob q n hb he) (fun z => ?_) (fun z => ?_) (fun z => ?_)
    · have := u.free b ob q n he
      rw [z, hx] at this; cases this
    · exact absurd (Heap.lt_size q) (Nat.not_lt.mpr (hT b z.symm))
    · rcases hfr b z with k | k
      · exact hb k
      · exact absurd (Heap.lt_size q) (Nat.not_lt.mpr k)
  slot := fun b ob q n hb he => by
    obtain ⟨sl, q1⟩ := u.slot b ob q n hb he
    obtain ⟨sl2, q2⟩ := N.slot b _ q1 (fun z => by have := u.free b ob q n he; rw [z, hx] at this; cases this) (fun z => absurd (Heap.lt_size q) (Nat.not_lt.mpr (hT b z.symm)))
    exact ⟨sl2, q2⟩
  free := u.free
  there := fun b ob q he => by
    obtain ⟨o', q1⟩ := u.there b ob q he
    exact N.there b o' q1
  tups := u.tups
  frzs := u.frzs
  tbls := u.tbls
noncomputable def Fly (h : Heap) (x : Addr) (v : Value) : Prop := ∃ oe vs, h.get? x = some oe ∧ oe.data = .fields vs ∧ vs[1]? = some v
noncomputable def Ctx0 (h : Heap) (x : Addr) : Prop := ∃ oe vs, h.get? x = some oe ∧ oe.data = .fields vs ∧ vs[2]? = some .none
noncomputable def CX1 (P : Program) (w : World) : CXT := fun v outer H s E e s' => ∃ x C dx T H', e = .ref x ∧ s'.os = s.os ∧ AllBare s'.gens ∧ Un (frs outer) [] H H' s.heap s'.heap ∧ HOk P w H' s'.heap ∧ H' x = some (ExO false x C dx) ∧
  Fly s'.heap x (.ref T) ∧ TbAt s'.heap T ∧ H' T = none ∧ s.heap.objs.size ≤ T ∧ E e none H' ∧ (v = none → Ctx0 s'.heap x)
section
variable {X : Cx} {pins : List (Addr × Obj)} {σ : St} {H H1 : Hp} {s s1 : Shared} {x C : Addr} {dx : Option Addr}
structure Rz (X : Cx) (pins : List (Addr × Obj)) (σ : St) (H1 : Hp) (s1 : Shared) (H : Hp) (x C : Addr) (dx : Option Addr) (T : Addr) (s : Shared) : Prop where
  pre : Inv X pins σ H1 s1
  os : s.os = s1.os
  bare : AllBare s.gens
  un : Un (frs X.stack) [] H1 H s1.heap s.heap
  hok : HOk X.prog X.w H s.heap
  at_ : H x = some (ExO false x C dx)
  fly : Fly s.heap x (.ref T)
  tb : TbAt s.heap T
  off : H T = none
  new : s1.heap.objs.size ≤ T
  ctx : X.A.handled = none → Ctx0 s.heap x
theorem Rz.inv {T : Addr} (r : Rz X pins σ H1 s1 H x C dx T s) : Inv X pins σ H s := r.pre.call' r.os r.un r.hok r.bare (fun b z => absurd z (by simp))
theorem set1 {C : Addr} {dx : Option Addr} {t0 T : Addr} {a1 a2 a3 a4 a5 : Value} : ({ excObj C dx #[.ref t0, a1, a2, a3, a4, a5] with data := .fields ((#[.ref t0, a1, a2, a3, a4, a5] : Array Value).setIfInBounds 1 (.ref T)) } : Obj) = excObj C dx #[.ref t0, .ref T, a2, a3, a4, a5] := rfl
theorem rz_of {old : Option Addr} {T : Addr} {h' : Heap} {t0 : Addr} {a2 a3 a4 a5 : Value} (hst : X.stack = X.env :: X.outer) (I : Inv X pins σ H1 s1) (os : s.os = s1.os) (bare : AllBare s.gens) (u : Un (frs X.stack) [] H1 H s1.heap s.heap) (hok : HOk X.prog X.w H s.heap) (hx : H x = some (ExO false x C dx)) (N : Noted (frs (X.env :: X.outer)) x old s.heap h')
    (ex : h'.get? x = some (excObj C dx #[.ref t0, .ref T, a2, a3, a4, a5])) (h2 : X.A.handled = none → a2 = .none) (hT : s.heap.objs.size ≤ T) (hs : s1.heap.objs.size ≤ s.heap.objs.size) (tb : TbAt h' T) (hold : ∀ T0, old = some T0 → H T0 = none ∧ s1.heap.objs.size ≤ T0) : Rz X pins σ H1 s1 H x C dx T { s with heap := h' } where
  pre := I
  os := os
  bare := bare
  un := noted_un u N hx (fun T0 e => (hold T0 e).2) fun b hb => .inl (by rw [hst]; exact hb)
  hok := by
    have fr : ∀ b ∈ frs (X.env :: X.outer), H b = none := fun b hb => by
      have hb : b ∈ frs X.stack := by rw [hst]; exact hb
      obtain ⟨_, o, ho, _⟩ := I.stack.mem hb
      exact u.free b o ho (I.stkFree b hb) (by simp)
    exact noted_ok hok N hx ⟨_, _, _, _, _, _, ex⟩ fr fun T0 e => (hold T0 e).1
  at_ := hx
  fly := ⟨_, _, ex, rfl, rfl⟩
  tb := tb
  off := hok.fresh hT
  new := Nat.le_trans hs hT
  ctx := fun k => ⟨_, _, ex, rfl, by rw [h2 k]; rfl⟩
theorem ctx_eq {h : Heap} {t0 : Addr} {a1 a2 a3 a4 a5 : Value} (e : h.get? x = some (excObj C dx #[.ref t0, a1, a2, a3, a4, a5])) (hf : Ctx0 h x) : a2 = .none := by
  obtain ⟨oe, vs, e2, hd, h1⟩ := hf
  rw [e] at e2
  cases e2
  cases (show Data.fields #[.ref t0, a1, a2, a3, a4, a5] = .fields vs from hd)
  exact Option.some.inj h1
theorem fly_eq {h : Heap} {t0 : Addr} {a1 a2 a3 a4 a5 v : Value} (e : h.get? x = some (excObj C dx #[.ref t0, a1, a2, a3, a4, a5])) (hf : Fly h x v) : (#[.ref t0, a1, a2, a3, a4, a5] : Array Value)[1]? = some v := by
  obtain ⟨oe, vs, e2, hd, h1⟩ := hf
  rw [e] at e2
  cases e2
  cases (show Data.fields #[.ref t0, a1, a2, a3, a4, a5] = .fields vs from hd)
  exact h1
theorem note_at {M : Model} {A : Around} {E : Value → Shared → Prop} {Q : Unit → Shared → Prop} (hA : A.frames = some X.stack) (hst : X.stack = X.env :: X.outer) (hfm : X.env.frame = some X.env.locals) (I : Inv X pins σ H1 s1) (os : s.os = s1.os) (bare : AllBare s.gens) (u : Un (frs X.stack) [] H1 H s1.heap s.heap) (hok : HOk X.prog X.w H s.heap)
    (hs : s1.heap.objs.size ≤ s.heap.objs.size) (hx : H x = some (ExO false x C dx)) (hf : Fly s.heap x .none ∨ ∃ T0, Fly s.heap x (.ref T0) ∧ TbAt s.heap T0 ∧ H T0 = none ∧ s1.heap.objs.size ≤ T0) (hc : X.A.handled = none → Ctx0 s.heap x)
    (q : ∀ T s', Rz X pins σ H1 s1 H x C dx T s' → Q () s') : wpAny M A (noteFrame (.ref x) X.env) (fun _ s' => wpAny M A (setFlight (.ref x) none) Q E s') E s := by
  obtain ⟨t0, a1, a2, a3, a4, a5, e, hfl⟩ := exO_get hok hx
  have fun2 : s.heap.FunFrames X.base (X.env :: X.outer) := by
    have f := (I.call' os u hok bare (fun b z => absurd z (by simp))).stack
    rwa [hst] at f
  rcases hf with hf | ⟨T0, hf, hT0, hn, hz⟩
  · refine note_first (hA.trans (congrArg some hst)) fun2 hfm e rfl (fly_eq e hf) fun h' T N ex hT tb => q T _ ?_
    exact rz_of hst I os bare u hok hx N (ex.trans (congrArg some set1)) (fun k => ctx_eq e (hc k)) hT hs tb fun T0 z => by cases z
  · refine note_next (hA.trans (congrArg some hst)) fun2 hfm e rfl (fly_eq e hf) hT0 (ne_of_none hx hn).symm fun h' T N ex hT tb => q T _ ?_
    exact rz_of hst I os bare u hok hx N (ex.trans (congrArg some set1)) (fun k => ctx_eq e (hc k)) hT hs tb fun T1 z => by cases z; exact ⟨hn, hz⟩
theorem Rz.flight {M : Model} {A : Around} {E : Value → Shared → Prop} {Q : Unit → Shared → Prop} {T : Addr} (r : Rz X pins σ H1 s1 H x C dx T s) (q : ∀ s', Rz X pins σ H1 s1 H x C dx T s' → Q () s') : wpAny M A (setFlight (.ref x) none) Q E s := by
  obtain ⟨oe, vs, e, hd, h1⟩ := id r.fly
  obtain ⟨oT, ts, hT, hdT, h3⟩ := id r.tb
  have hne : x ≠ T := ne_of_none r.at_ r.off
  refine wpAny_setFlight_none e hd h1 hT hdT (Array.getElem?_eq_some_iff.mp h3).1 (q _ ?_)
  have t1 := Heap.get?_update_self (h := s.heap) (Obj.mapFields (·.setIfInBounds 3 Value.none)) hT (by rw [setF hdT]; exact unfreed rfl)
  have o1 : ∀ b, b ≠ T → (s.heap.update T (Obj.mapFields (·.setIfInBounds 3 Value.none))).get? b = s.heap.get? b := fun b hb => Heap.get?_update_other _ _ (Ne.symm hb)
  rw [setF hdT] at t1
  have hs3 := (Array.getElem?_eq_some_iff.mp h3).1
  generalize s.heap.update T (Obj.mapFields (·.setIfInBounds 3 Value.none)) = g at t1 o1
  have nt : ∀ b o, s1.heap.get? b = some o → b ≠ T := fun b o z => Nat.ne_of_lt (Nat.lt_of_lt_of_le (Heap.lt_size z) r.new)
  refine ⟨r.pre, r.os, r.bare, ⟨fun b o z n hb he => (o1 b (nt b o z)).trans (r.un.keep b o z n hb he), fun b o z n hb he => ?_, r.un.free, fun b o z he => ?_, r.un.tups, r.un.frzs, r.un.tbls⟩, fun a o z => ?_, r.at_, ⟨oe, vs, (o1 x hne).trans e, hd, h1⟩, ⟨_, _, t1, rfl, by simp [hs3]⟩, r.off, r.new, fun k => by obtain ⟨oe2, vs2, e2, hd2, h2⟩ := r.ctx k; exact ⟨oe2, vs2, (o1 x hne).trans e2, hd2, h2⟩⟩
  · obtain ⟨sl, w⟩ := r.un.slot b o z n hb he
    exact ⟨sl, (o1 b (nt b o z)).trans w⟩
  · obtain ⟨o', w⟩ := r.un.there b o z he
    exact ⟨o', (o1 b (nt b o z)).trans w⟩
  · refine (r.hok a o z).stay (fun b u hb w => ?_) (fun _ w => w) fun _ _ w => w
    refine (o1 b fun k => ?_).trans w
    subst k
    rcases hb with rfl | hb
    · have := r.off; rw [z] at this; cases this
    · have := r.off; rw [hb] at this; cases this
end
section
variable {P : Program} {w : World} {K : PySem.W.Frag} {mg : Str → Option Value} {base : Heap} {N : List Str} {qual : Str} {scope : Scope} {f : Addr} {cd : Value} {A : Around} {outer : List Env} {s : Shared} {H : Hp} {E E1 : XK}
theorem leave1 {pins : List (Addr × Obj)} {σ : St} {H1 : Hp} {s1 : Shared} {x C : Addr} {dx : Option Addr} (I : Inv (cxOf (CX1 P w) P w K mg base N qual scope f cd A outer s H E) pins σ H1 s1) (hx : H1 x = some (ExO false x C dx)) (hf : Fly s1.heap x .none) (hc : A.handled = none → Ctx0 s1.heap x) (q : E (.ref x) none H1) :
    (cxOf (CX1 P w) P w K mg base N qual scope f cd A outer s H E).xe (.ref x) s1 := by
  show wpAny _ _ (leaving _ _) _ _ _
  unfold leaving
  refine wpAny_bind (note_at (X := cxOf (CX1 P w) P w K mg base N qual scope f cd A outer s H E) I.ok.frames rfl rfl I rfl I.bare Un.refl I.hok (Nat.le_refl _) hx (.inl hf) hc fun T s' r => ?_)
  exact ⟨x, C, dx, T, H1, rfl, r.inv.os, r.bare, r.inv.base, r.hok, hx, r.fly, r.tb, r.off, Nat.le_trans I.sz r.new, q, fun k => r.ctx k⟩
theorem pass1 (hE : ∀ e H', E1 e none H' → E e none H') : Passes (CX1 P w) (cxOf (CX1 P w) P w K mg base N qual scope f cd A outer s H E) E1 := fun pins σ H1 s1 e s' I h => by
  obtain ⟨x, C, dx, T, H', rfl, os, bare, un, hok, hx, fl, tb, hn, hz, q, hc⟩ := h
  show wpAny _ _ (leaving _ _) _ _ _
  unfold leaving
  have hs : s1.heap.objs.size ≤ s'.heap.objs.size := Nat.le_trans hz (Nat.le_of_lt (by obtain ⟨_, _, e, _⟩ := tb; exact Heap.lt_size e))
  refine wpAny_bind (note_at (X := cxOf (CX1 P w) P w K mg base N qual scope f cd A outer s H E) I.ok.frames rfl rfl I os bare un hok hs hx (.inr ⟨T, fl, tb, hn, hz⟩) (fun k => hc k) fun T2 s2 r => ?_)
  exact ⟨x, C, dx, T2, H', rfl, r.inv.os, r.bare, r.inv.base, r.hok, hx, r.fly, r.tb, r.off, Nat.le_trans I.sz r.new, hE _ _ q, fun k => r.ctx k⟩
end
end L2

set_option maxHeartbeats 4000000
namespace L2
open PySem PySem.Spec PyProof.Rows PySem.W
structure Wish (X : Cx) (W : St → XK) : Prop where
  made : ∀ {pins : List (Addr × Obj)} {σ : St} {H : Hp} {s : Shared} {x C : Addr} {dx : Option Addr}, Inv X pins σ H s → H x = some (ExO false x C dx) → Fly s.heap x .none → (X.A.handled = none → Ctx0 s.heap x) → W σ (.ref x) none H → X.xe (.ref x) s
  came : ∀ {pins : List (Addr × Obj)} {σ : St} {H : Hp} {s s' : Shared} {e : Value}, Inv X pins σ H s → CX1 X.prog X.w X.A.handled X.stack H s (W σ) e s' → X.xe e s'
theorem wish_def {P : Program} {w : World} {K : PySem.W.Frag} {mg : Str → Option Value} {base : Heap} {N : List Str} {qual : Str} {scope : Scope} {f : Addr} {cd : Value} {A : Around} {outer : List Env} {s : Shared} {H : Hp} {E : XK} :
    Wish (cxOf (CX1 P w) P w K mg base N qual scope f cd A outer s H E) (fun _ => E) :=
  ⟨fun I hx hf hc q => leave1 I hx hf hc q, fun {pins σ H1 s1 s' e} I h => pass1 (fun _ _ q => q) pins σ H1 s1 e s' I h⟩
section
variable {X : Cx} {W : St → XK} {k : Nat} {f C : Addr} {fd : FuncData} {ps : List Str} {sp : Sp} {x : Str} {st : Stmt} {p pos rpos : Pos} {e : Expr} {es : List Expr} {t : TA}
noncomputable def tCallX (sp : Sp) (W : St → XK) (t : TA) : TE := fun σ H Q => t σ H fun vs H1 => sp vs H1 Q (W σ)
theorem run_fnX {pins : List (Addr × Obj)} {σ : St} {H : Hp} {s : Shared} {Q : VK} {us : List Value} {vs : List V} (hw : Wish X W) (F : FnOk X.prog X.w X.K X.mg X.base (CX1 X.prog X.w) k f fd ps sp) (hr : Room k X.A) (hb : Binds X.K fd ps [])
    (I : Inv X pins σ H s) (r : Vals vs us) (h : sp vs H Q (W σ)) : wpAny (model X.prog X.w) X.A (call (.ref f) us) (EP X pins σ Q) X.xe s := by
  have hl : (us ++ []).length = ps.length := by rw [List.append_nil, ← r.length]; exact F.len _ _ _ _ h
  refine wpAny_call (codeAny_mono (F.run X.A X.stack s H ⟨us, []⟩ (us ++ []) vs Q (W σ) hr I.env0 (hb s us I.kIn hl) (by rw [List.append_nil]; exact r) h) fun r s' hq => ?_)
  cases r with
  | error e => exact hw.came I hq
  | ok fl =>
    cases fl with
    | ret u => exact I.after hq
    | next => exact False.elim hq
    | brk => exact False.elim hq
    | cont => exact False.elim hq
theorem pcallX (A : FnAt X.K X.mg x st ps f fd) (F : FnOk X.prog X.w X.K X.mg X.base (CX1 X.prog X.w) k f fd ps sp) (hr : Room k X.A) (hw : Wish X W) (ha : PA X (e :: es) t) (hg : Gl X x := by rfl) (hdb : (x == ("__debug__" : Str)) = false := by decide) (he : starEach (e :: es) X.env = (false, eval e X.env) :: starEach es X.env := by rfl) (hpl : (backTo pos (starEach es X.env)).any (·.1) = false := by rfl) :
    PE X (.Call (.Name x p) (e :: es) [] pos) (tCallX sp W t) := by
  intro pins s σ H Q I h
  refine wpAny_Call_Name_kw (ld_glob I hg A.m ?_ hdb)
  refine PySem.W.callWith_K (h₀ := X.base) I.ok.mod.kin A.F.kp (thn (ha pos pins s σ H _ I h) fun us s1 ⟨vs, H1, I1, r, q⟩ => ⟨I1.kIn, ?_⟩) he hpl
  exact run_fnX hw F hr A.b I1 r q
end
section
variable {P : Program} {w : World} {K : PySem.W.Frag} {mg : Str → Option Value} {base : Heap}
end
end L2

set_option maxHeartbeats 4000000
namespace L2
open PySem PySem.Spec PyProof.Rows PySem.W
section
variable {P : Program} {w : World} {A : Around} {E : Value → Shared → Prop} {s : Shared} {env : Env}
theorem raise_own {x : Sem Value} {Q : Flow → Shared → Prop}
    (h : wpAny (model P w) A x (fun v s1 => ∃ e C dx vs, ∃ nm q N bs bm hdct sn sub ab col dd k0 k1 k2 k3 k5 nid, v = .ref e ∧ s1.heap.get? C = some (excClassObj nm q C N bs bm hdct sn sub ab col dd k0 k1 k2 k3 k5 nid) ∧ bm.contains (.type "BaseException") = true ∧ s1.heap.get? e = some (excObj C dx vs) ∧ vs[1]? = some .none ∧ 2 < vs.size ∧ HS A s1.heap ∧ (A.handled = none → E (.ref e) s1) ∧ (∀ d, A.handled = some (.ref d) → d ≠ e ∧ E (.ref e) { s1 with heap := s1.heap.update e (Obj.mapFields (·.setIfInBounds 2 (.ref d))) })) E s) :
    wpAny (model P w) A (raiseStmt env (some x) none) Q E s := by
  unfold raiseStmt
  refine wpAny_bind (thn h fun v s1 hz => ?_)
  obtain ⟨e, C, dx, vs, nm, q, N, bs, bm, hdct, sn, sub, ab, col, dd, k0, k1, k2, k3, k5, nid, rfl, hC, hb, he, h1, hsz, hs, hE, hF⟩ := hz
  obtain ⟨hp, g, d, t, os⟩ := s1
  refine wpAny_bind (wpAny_pure ?_)
  have nt : ∀ {Q2 : Bool → Shared → Prop}, Q2 false ⟨hp, g, d, t, os⟩ → wpAny (model P w) A (isType (.ref e)) Q2 E ⟨hp, g, d, t, os⟩ := fun {Q2} h2 => by
    unfold isType loadHead
    exact wpAny_bind (wpAny_loadPart he (wpAny_pure h2))
  refine wpAny_bind (wpAny_holding ?_)
  unfold excFromValue isExcClass isInstance
  refine wpAny_bind (wpAny_bind (nt ?_))
  rw [if_neg (by decide)]
  refine wpAny_pure ?_
  rw [if_neg (by decide)]
  refine wpAny_bind (wpAny_bind (wpAny_typeOf_ref he (wpAny_isSubtype_exc hC ?_)))
  rw [List.contains_cons, hb, Bool.or_true, if_pos rfl]
  refine wpAny_pure ?_
  dsimp only
  refine wpAny_bind (nt ?_)
  rw [if_neg (by decide)]
  unfold raisedInstance
  refine wpAny_bind (wpAny_bind (wpAny_typeOf_ref he (wpAny_bind (wpAny_typeOf_ref hC ?_))))
  rw [if_pos (show ((excClassObj nm q C N bs bm hdct sn sub ab col dd k0 k1 k2 k3 k5 nid).cls == Value.type "type") = true from by rfl)]
  refine wpAny_pure ?_
  unfold setFlight
  refine wpAny_bind (wpAny_bind (wpAny_field he rfl h1 ?_))
  rw [if_neg (by decide)]
  refine wpAny_pure ?_
  rcases hs with hh | ⟨d, od, vd, hh, hd, hdd, h2⟩
  · exact wpAny_raiseNew_none hh (hE hh)
  · exact raise_some hh (hF d hh).1 he rfl hsz hd hdd h2 (hF d hh).2
end
theorem tail_base {h : Heap} {bm : List Value} (T : OwnTail h veMro bm) : bm.contains (.type "BaseException") = true := by
  induction T with
  | base => rfl
  | own _ _ _ _ ih => rw [List.contains_cons, ih, Bool.or_true]
section
variable {X : Cx} {W : St → XK} {pos : Pos} {e : Expr} {te : TE}
theorem Inv.flown {pins : List (Addr × Obj)} {σ : St} {H : Hp} {s : Shared} {x C : Addr} {dx : Option Addr} {fl : Bool} (I : Inv X pins σ H s) (hx : H x = some (ExO fl x C dx)) : Inv X pins σ (upd H x (ExO false x C dx)) s := by
  obtain ⟨t0, a1, a2, a3, a4, a5, e, hfl⟩ := exO_get I.hok hx
  exact I.write (x := x) (e := x) (o := ExO false x C dx) (t' := s.toks) (h' := s.heap) (by rw [hx]; exact True.intro) (.inl rfl) (fun b o hb q => q) ⟨_, e⟩ (exO_ok e fun z => (by cases z))
noncomputable def tRaise (K : Frag) (W : St → XK) (te : TE) : TS := fun _ σ H => te σ H fun v H1 => ∃ x C dx, v = .ref x ∧ H1 x = some (ExO true x C dx) ∧ ExC K C ∧ W σ (.ref x) none (upd H1 x (ExO false x C dx))
theorem qs_raise (hw : Wish X W) (hc : X.calm = true) (he : PE X e te) : QS X (.Raise (some e) none pos) (tRaise X.K W te) := ⟨by
  intro pins s σ H D I h
  rw [arm_exec_Raise]
  refine wpAny_bind (wpAny_standAt ?_)
  refine raise_own (x := do let v ← eval e X.env; standAt pos; pure v) (wpAny_bind (thn (he pins s σ H _ I h) fun u s1 hz => ?_))
  obtain ⟨vv, H1, I1, r, x, C, dx, rfl, hx, c, q⟩ := hz
  obtain rfl : u = Value.ref x := r
  obtain ⟨nm, q', N, bs, bm, hdct, sn, sub, ab, col, dd, k0, k1, k2, k3, k5, hcl, hT⟩ := c
  obtain ⟨t0, a1, a2, a3, a4, a5, e1, hn⟩ := exO_get I1.hok hx
  have h1 : (#[.ref t0, a1, a2, a3, a4, a5] : Array Value)[1]? = some .none := by rw [(hn rfl).1]; rfl
  refine wpAny_bind (wpAny_standAt (wpAny_pure ⟨x, C, dx, _, nm, q', N, bs, bm, hdct, sn, sub, ab, col, dd, k0, k1, k2, k3, k5, _, rfl, I1.kIn _ _ hcl, tail_base (hT _ I1.kIn), e1, h1, (by decide : 2 < 6), I1.hs hc, fun hz => hw.made (I1.flown hx) upd_same ⟨_, _, e1, rfl, h1⟩ (fun _ => ⟨_, _, e1, rfl, by rw [(hn rfl).2]; rfl⟩) q, fun d hz => ?_⟩))
  have hne : d ≠ x := fun z => by
    rcases I1.ok.hd hc with k | ⟨d', od, vd, k, g, _⟩
    · rw [k] at hz; cases hz
    · rw [k] at hz; cases hz
      have := (I1.bs _ _ g).2
      rw [z, hx] at this
      cases this
  refine ⟨hne, ?_⟩
  have g1 := Heap.get?_update_self (h := s1.heap) (Obj.mapFields (·.setIfInBounds 2 (Value.ref d))) e1 rfl
  have g2 : ∀ b, b ≠ x → (s1.heap.update x (Obj.mapFields (·.setIfInBounds 2 (Value.ref d)))).get? b = s1.heap.get? b := fun b hb => Heap.get?_update_other _ _ (Ne.symm hb)
  have g3 : (s1.heap.update x (Obj.mapFields (·.setIfInBounds 2 (Value.ref d)))).get? x = some (excObj C dx #[.ref t0, a1, .ref d, a3, a4, a5]) := g1
  refine hw.made (I1.write (x := x) (e := x) (o := ExO false x C dx) (t' := s1.toks) (h' := s1.heap.update x (Obj.mapFields (·.setIfInBounds 2 (Value.ref d)))) (by rw [hx]; exact True.intro) (.inl rfl) (fun b o hb q => (g2 b hb).trans q) ⟨_, g3⟩ (exO_ok g3 fun z => (by cases z))) upd_same ⟨_, _, g3, rfl, h1⟩ (fun z => ?_) q
  rw [z] at hz; cases hz⟩
end
end L2

set_option maxHeartbeats 4000000
namespace L2
open PySem PySem.Spec PyProof.Rows PySem.W
theorem sub_tt : isSubtype (.type "type") (.type "tuple") = pure false := by kernel_rfl
section
variable {M : Model} {A : Around} {E : Value → Shared → Prop} {s : Shared}
theorem exc_match {x C D : Addr} {oe : Obj} {nm q nm' q' : Str} {N N' : Addr} {bs bm bs' bm' : List Value} {hdct hdct' : Bool} {sn sn' : List Str} {sub sub' : List Value} {ab ab' : Bool} {col col' : Option Bool} {dd dd' : Option Addr} {k0 k1 k2 k3 k5 k0' k1' k2' k3' k5' : Option Value} {nid nid' : String} {Q : Bool → Shared → Prop}
    (hC : s.heap.get? C = some (excClassObj nm q C N bs bm hdct sn sub ab col dd k0 k1 k2 k3 k5 nid)) (hD : s.heap.get? D = some (excClassObj nm' q' D N' bs' bm' hdct' sn' sub' ab' col' dd' k0' k1' k2' k3' k5' nid'))
    (he : s.heap.get? x = some oe) (hc : oe.cls = .ref C) (hb : bm'.contains (.type "BaseException") = true) (h : Q ((Value.ref C :: bm).contains (.ref D)) s) : wpAny M A (excMatches (.ref x) (.ref D)) Q E s := by
  obtain ⟨hh, g, d, t, os⟩ := s
  unfold excMatches isInstance
  refine wpAny_bind (wpAny_bind (wpAny_typeOf_ref hD ?_))
  show wpAny M A (isSubtype (.type "type") (.type "tuple")) _ E _
  rw [sub_tt]
  refine wpAny_pure ?_
  rw [if_neg (by decide)]
  refine wpAny_bind (wpAny_pure ?_)
  have exc : ∀ {Q2 : Bool → Shared → Prop}, Q2 true ⟨hh, g, d, t, os⟩ → wpAny M A (isExcClass (.ref D)) Q2 E ⟨hh, g, d, t, os⟩ := fun {Q2} h2 => by
    unfold isExcClass isType loadHead
    refine wpAny_bind (wpAny_bind (wpAny_loadPart hD (wpAny_pure ?_)))
    rw [if_pos rfl]
    refine wpAny_isSubtype_exc hD ?_
    rw [List.contains_cons, hb, Bool.or_true]
    exact h2
  dsimp only
  rw [List.forIn_cons]
  refine wpAny_bind (wpAny_bind (wpAny_bind (exc ?_)))
  rw [if_neg (by decide)]
  refine wpAny_pure ?_
  dsimp only
  rw [List.forIn_nil]
  refine wpAny_pure ?_
  refine wpAny_bind (wpAny_typeOf_ref he ?_)
  rw [hc, List.forIn_cons]
  refine wpAny_bind (wpAny_bind (wpAny_bind (wpAny_isSubtype_exc hC ?_)))
  by_cases k : (Value.ref C :: bm).contains (.ref D) = true
  · rw [if_pos k]
    rw [k] at h
    exact wpAny_pure (wpAny_pure (wpAny_pure h))
  · have k2 : (Value.ref C :: bm).contains (.ref D) = false := by simpa using k
    rw [if_neg k]
    rw [k2] at h
    refine wpAny_pure ?_
    dsimp only
    rw [List.forIn_nil]
    exact wpAny_pure (wpAny_pure h)
end
end L2

set_option maxHeartbeats 4000000
namespace L2
open PySem PySem.Spec PyProof.Rows PySem.W
section
variable {X : Cx} {pins : List (Addr × Obj)} {σ : St} {H : Hp} {s : Shared}
theorem del_ok {M : Model} {A : Around} {E : Value → Shared → Prop} {i : Nat} {x : Str} {v : V} {Q : Unit → Shared → Prop} (I : Inv X pins σ H s) (hN : X.N.Nodup) (hi : X.N[i]? = some x) (hk : X.env.scope.names.lookup x = some .local) (hσ : σ[i]? = some (some v))
    (h : ∀ s', Inv X pins (σ.set i none) H s' → Q () s') : wpAny M A (unbindName X.env x) Q E s := by
  obtain ⟨m, hn, hl⟩ := id I.loc
  have hcls : (X.env.scope.kind == .class || (X.env.scope.kind == .module && X.env.locals != X.env.globals)) = false := by rw [I.ok.kind]; rfl
  have hiσ : i < σ.length := by rw [I.len]; exact (List.getElem?_eq_some_iff.mp hi).1
  have cne := I.cne
  obtain ⟨u, _, hu⟩ := hl i x v hi hσ (.inl hk)
  have hm : m x = some u := by
    rcases hu with ⟨_, z⟩ | ⟨z, _⟩
    · exact z
    · have hk2 : X.env.kindOf x = some .local := hk
      rw [hk2] at z
      rcases z with z | z <;> cases z
  obtain ⟨oL, _, _, hoL, _⟩ := id hn
  refine wpAny_unbindName_local hk hn hm hcls (fun h' w hn' hs => ?_)
  refine h _ ⟨I.ok, I.os, I.bare, ⟨fun b o e n hb hx => ?_, fun b o e n hb hx => ?_, I.base.free, fun b o e hx => ?_, I.base.tups, I.base.frzs, I.base.tbls⟩, ⟨_, hn', fun j y v' e1 e2 e3 => ?_⟩, fun y c e => ?_, I.free, I.freeC, fun p hp => ?_, fun b ob e => ?_, by simpa using I.len⟩
  · exact (hs.2 b (Nat.ne_of_lt (Nat.lt_of_lt_of_le (Heap.lt_size e) I.ok.above))).trans (I.base.keep b o e n hb hx)
  · obtain ⟨sl, e1⟩ := I.base.slot b o e n hb hx
    exact ⟨sl, (hs.2 b (Nat.ne_of_lt (Nat.lt_of_lt_of_le (Heap.lt_size e) I.ok.above))).trans e1⟩
  · obtain ⟨o', e1⟩ := I.base.there b o e hx
    exact ⟨o', (hs.2 b (Nat.ne_of_lt (Nat.lt_of_lt_of_le (Heap.lt_size e) I.ok.above))).trans e1⟩
  · by_cases hj : j = i
    · subst hj
      rw [List.getElem?_set_self hiσ] at e2
      cases e2
    · rw [List.getElem?_set_ne (Ne.symm hj)] at e2
      obtain ⟨u', r', q⟩ := hl j y v' e1 e2 e3
      refine ⟨u', r', ?_⟩
      rcases q with ⟨k, e⟩ | ⟨k, c, e, z⟩
      · refine .inl ⟨k, ?_⟩
        have : y ≠ x := fun e => hj (nodup_ix hN e1 (e ▸ hi))
        simp [this, e]
      · exact .inr ⟨k, c, e, z.sameBut hs (cne y c e)⟩
  · obtain ⟨w', z⟩ := I.cell y c e
    exact ⟨w', z.sameBut hs (cne y c e)⟩
  · obtain ⟨e, n, ne, nf, d⟩ := I.pin p hp
    exact ⟨(hs.2 p.1 ne).trans e, n, ne, nf, d⟩
  · refine (I.hok b ob e).stay (fun c w' hc q => (hs.2 c ?_).trans q) (fun _ q => q) fun _ _ q => q
    rintro rfl
    rcases hc with rfl | hc
    · rw [I.free] at e; cases e
    · rw [I.free] at hc; cases hc
theorem gone_ok {M : Model} {A : Around} {E : Value → Shared → Prop} {i : Nat} {x : Str} {pos : Pos} {Q : Unit → Shared → Prop} (I : Inv X pins σ H s) (hN : X.N.Nodup) (hi : X.N[i]? = some x) (hk : X.env.scope.names.lookup x = some .local)
    (h : ∀ s', Inv X pins (σ.set i none) H s' → Q () s') : wpAny M A (do bindName X.env x Value.none; unbindBehindTheSuite X.env x pos) Q E s := by
  have hiσ : i < σ.length := by rw [I.len]; exact (List.getElem?_eq_some_iff.mp hi).1
  refine wpAny_bind (wpAny_bindName (store_ok I hN hi (.inl hk) (v := V.non) rfl (fun s' I' => ?_) (.inr hk)))
  unfold unbindBehindTheSuite
  refine wpAny_onRaise (del_ok I' hN hi hk (List.getElem?_set_self hiσ) fun s2 I2 => ?_)
  rw [List.set_set] at I2
  exact h s2 I2
end
noncomputable abbrev Cx.tryc (X : Cx) (pins : List (Addr × Obj)) (E : Value → Shared → Prop) : Cx := { X with xe := E, pn := X.pn ++ pins }
noncomputable abbrev Cx.hand (X : Cx) (x : Addr) (pins : List (Addr × Obj)) (E : Value → Shared → Prop) : Cx := { X with A := X.A.mark (some (.ref x)), calm := false, xe := E, pn := X.pn ++ pins }
section
variable {X : Cx} {pins pins' : List (Addr × Obj)} {σ : St} {H : Hp} {s : Shared} {E : Value → Shared → Prop} {x : Addr}
theorem Inv.tryc (I : Inv X pins σ H s) : Inv (X.tryc pins E) [] σ H s :=
  ⟨⟨I.ok.mod, I.ok.kind, I.ok.glob, I.ok.blt, I.ok.above, I.ok.inj, I.ok.has, I.ok.cab, I.ok.hd, I.ok.frames, I.ok.stk, I.ok.exf, I.ok.bs, I.ok.bsz, I.ok.noex, I.ok.exfs, I.ok.funs, I.ok.frf⟩, I.os, I.bare, I.base, I.loc, I.cell, I.free, I.freeC, fun p hp => I.pin p (by simpa using hp), I.hok, I.len⟩
theorem Inv.untry (I : Inv (X.tryc pins E) pins' σ H s) : Inv X pins σ H s :=
  ⟨⟨I.ok.mod, I.ok.kind, I.ok.glob, I.ok.blt, I.ok.above, I.ok.inj, I.ok.has, I.ok.cab, I.ok.hd, I.ok.frames, I.ok.stk, I.ok.exf, I.ok.bs, I.ok.bsz, I.ok.noex, I.ok.exfs, I.ok.funs, I.ok.frf⟩, I.os, I.bare, I.base, I.loc, I.cell, I.free, I.freeC, fun p hp => I.pin p (List.mem_append_left _ hp), I.hok, I.len⟩
theorem Inv.hand (I : Inv X pins σ H s) : Inv (X.hand x pins E) [] σ H s :=
  ⟨⟨I.ok.mod, I.ok.kind, I.ok.glob, I.ok.blt, I.ok.above, I.ok.inj, I.ok.has, I.ok.cab, (fun z => by cases z), I.ok.frames, I.ok.stk, I.ok.exf, I.ok.bs, I.ok.bsz, I.ok.noex, I.ok.exfs, I.ok.funs, I.ok.frf⟩, I.os, I.bare, I.base, I.loc, I.cell, I.free, I.freeC, fun p hp => I.pin p (by simpa using hp), I.hok, I.len⟩
theorem Inv.unhand (ok : X.Ok) (I : Inv (X.hand x pins E) pins' σ H s) : Inv X pins σ H s :=
  ⟨ok, I.os, I.bare, I.base, I.loc, I.cell, I.free, I.freeC, fun p hp => I.pin p (List.mem_append_left _ hp), I.hok, I.len⟩
end
end L2

set_option maxHeartbeats 4000000
namespace L2
open PySem PySem.Spec PyProof.Rows PySem.W
noncomputable def Sub (K : Frag) (C D : Addr) : Prop := ∃ nm q N bs bm hdct sn sub ab col dd k0 k1 k2 k3 k5 nid, K.lookup C = some (excClassObj nm q C N bs bm hdct sn sub ab col dd k0 k1 k2 k3 k5 nid) ∧ (Value.ref C :: bm).contains (.ref D) = true
noncomputable def Ends.off (En : Ends) (i : Nat) : Ends := { nx := fun σ H => En.nx (σ.set i none) H, rt := En.rt, bk := fun σ H => En.bk (σ.set i none) H, ct := fun σ H => En.ct (σ.set i none) H }
section
variable {X : Cx} {pins : List (Addr × Obj)} {σ : St} {H0 H1 : Hp} {s0 s2 : Shared} {x C D T : Addr} {dx : Option Addr} {cx n : Str} {i : Nat} {np hpos pos : Pos} {b₀ : Stmt} {suite body orelse : List Stmt} {rest : List ExceptHandler} {ts to : TS} {En : Ends} {E : Value → Shared → Prop}
theorem Rz.as {C2 : Addr} {dx2 : Option Addr} (r : Rz X pins σ H0 s0 H1 x C dx T s2) (h : H1 x = some (ExO false x C2 dx2)) : Rz X pins σ H0 s0 H1 x C2 dx2 T s2 := ⟨r.pre, r.os, r.bare, r.un, r.hok, h, r.fly, r.tb, r.off, r.new, r.ctx⟩
theorem hand_as (r : Rz X pins σ H0 s0 H1 x C dx T s2) (sub : Sub X.K C D) (exD : ExC X.K D) (hg : Gl X cx) (hm : X.mg cx = some (.ref D)) (hdb : (cx == ("__debug__" : Str)) = false) (hN : X.N.Nodup) (hi : X.N[i]? = some n) (hk : X.env.scope.names.lookup n = some .local)
    (hs : QSs (X.hand x pins fun _ _ => False) (b₀ :: suite) ts) (q : ts (En.off i) (σ.set i (some (.ref x))) H1) :
    wpAny (model X.prog X.w) X.A (handleBy (.ref x) X.env (.ExceptHandler (some (.Name cx np)) (some n) (b₀ :: suite) hpos :: rest)) (SP X pins En) E s2 := by
  have Ih := r.inv.hand (x := x) (E := fun _ _ => False)
  refine wpAny_handleBy_cons (codeAny_handlers_test (ld_glob Ih hg hm ?_ hdb)) (by intro z; cases z)
  obtain ⟨nm, q', N, bs, bm, hdct, sn, sb, ab, col, dd, k0, k1, k2, k3, k5, hcl, hT⟩ := exD
  obtain ⟨nm2, q2, N2, bs2, bm2, hdct2, sn2, sb2, ab2, col2, dd2, j0, j1, j2, j3, j5, nid, hcl2, hcon⟩ := sub
  obtain ⟨t0, a1, a2, a3, a4, a5, e, _⟩ := exO_get r.hok r.at_
  refine exc_match (r.inv.kIn _ _ hcl2) (r.inv.kIn _ _ hcl) e rfl (tail_base (hT _ r.inv.kIn)) ?_
  rw [hcon]
  show codeAny _ _ (Code.handlers _ [ExceptHandler.ExceptHandler none (some n) (b₀ :: suite) hpos] _) _ _
  refine codeAny_handlers_suite_as (r.flight fun s3 r3 => ?_)
  refine store_ok (X := X.hand x pins fun _ _ => False) (pins := []) r3.inv.hand hN hi (.inl hk) (v := V.ref x) rfl (fun s4 I4 => ?_) (.inr hk)
  refine wpAny_mono (hs.h [] s4 _ _ _ I4 q) (fun f s5 q5 => ?_) (fun e s5 z => z.elim)
  cases f with
  | next => obtain ⟨σ', H', I', q'⟩ := q5; exact gone_ok (I'.unhand r.inv.ok) hN hi hk fun s6 I6 => ⟨_, _, I6, q'⟩
  | brk => obtain ⟨σ', H', I', q'⟩ := q5; exact gone_ok (I'.unhand r.inv.ok) hN hi hk fun s6 I6 => ⟨_, _, I6, q'⟩
  | cont => obtain ⟨σ', H', I', q'⟩ := q5; exact gone_ok (I'.unhand r.inv.ok) hN hi hk fun s6 I6 => ⟨_, _, I6, q'⟩
  | ret u => obtain ⟨v, σ', H', I', rv, q'⟩ := q5; exact gone_ok (I'.unhand r.inv.ok) hN hi hk fun s6 I6 => ⟨v, _, _, I6, rv, q'⟩
noncomputable abbrev caughtBy (X : Cx) (pins : List (Addr × Obj)) (hs : List ExceptHandler) (En : Ends) : Value → Shared → Prop := fun e s1 => wpAny (model X.prog X.w) X.A (noteFrame e X.env) (fun _ s2 => wpAny (model X.prog X.w) X.A (setFlight e none) (fun _ s3 => wpAny (model X.prog X.w) X.A (handleBy e X.env hs) (SP X pins En) X.xe s3) X.xe s2) X.xe s1
theorem wish_try {hs : List ExceptHandler} {W : St → XK} (hst : X.stack = X.env :: X.outer) (hfm : X.env.frame = some X.env.locals)
    (h : ∀ {σ : St} {H0 H1 : Hp} {s0 s2 : Shared} {x C T : Addr} {dx : Option Addr}, Rz X pins σ H0 s0 H1 x C dx T s2 → W σ (.ref x) none H1 → wpAny (model X.prog X.w) X.A (handleBy (.ref x) X.env hs) (SP X pins En) X.xe s2) : Wish (X.tryc pins (caughtBy X pins hs En)) W where
  made := fun {pins' σ H s x C dx} I hx hf hc q => note_at (X := X) I.ok.frames hst hfm I.untry rfl I.bare Un.refl I.hok (Nat.le_refl _) hx (.inl hf) hc fun T s' r => h r q
  came := fun {pins' σ H s s' e} I z => by
    obtain ⟨x, C, dx, T, H', rfl, os, bare, un, hok, hx, fl, tb, hn, hz, q, hc⟩ := z
    have hs : s.heap.objs.size ≤ s'.heap.objs.size := Nat.le_trans hz (Nat.le_of_lt (by obtain ⟨_, _, e, _⟩ := tb; exact Heap.lt_size e))
    exact note_at (X := X) I.ok.frames hst hfm I.untry os bare un hok hs hx (.inr ⟨T, fl, tb, hn, hz⟩) (fun k => hc k) fun T2 s2 r => h r q
noncomputable def tTryAs (K : Frag) (D : Addr) (i : Nat) (tb : (St → XK) → TS) (to ts : TS) : TS := fun En σ H =>
  tb (fun σ1 e _ H1 => ∃ x C dx, e = .ref x ∧ H1 x = some (ExO false x C dx) ∧ Sub K C D ∧ ts (En.off i) (σ1.set i (some (.ref x))) H1) { En with nx := fun σ2 H2 => to En σ2 H2 } σ H
theorem try_go {hs : List ExceptHandler} {h₀ : ExceptHandler} {W : St → XK} {tb : (St → XK) → TS} {s : Shared} {H : Hp} (hw : Wish (X.tryc pins (caughtBy X pins (h₀ :: hs) En)) W) (hb : QSs (X.tryc pins (caughtBy X pins (h₀ :: hs) En)) body (tb W)) (ho : QSs X orelse to) (I : Inv X pins σ H s)
    (h : tb W { En with nx := fun σ2 H2 => to En σ2 H2 } σ H) : wpAny (model X.prog X.w) X.A (exec (.Try body (h₀ :: hs) orelse [] pos) X.env) (SP X pins En) X.xe s := by
  refine wpAny_Try_except (wpAny_mono (hb.h [] s σ H _ I.tryc h) (fun f s1 q => ?_) (fun e s1 q => q))
  cases f with
  | next => obtain ⟨σ', H', I', q'⟩ := q; exact ho.h pins s1 σ' H' En I'.untry q'
  | brk => obtain ⟨σ', H', I', q'⟩ := q; exact ⟨_, _, I'.untry, q'⟩
  | cont => obtain ⟨σ', H', I', q'⟩ := q; exact ⟨_, _, I'.untry, q'⟩
  | ret u => obtain ⟨v, σ', H', I', rv, q'⟩ := q; exact ⟨v, _, _, I'.untry, rv, q'⟩
theorem qs_tryAs {tb : (St → XK) → TS} (exD : ExC X.K D) (hm : X.mg cx = some (.ref D)) (hN : X.N.Nodup) (hi : X.N[i]? = some n) (hk : X.env.scope.names.lookup n = some .local) (hst : X.stack = X.env :: X.outer) (hfm : X.env.frame = some X.env.locals)
    (hb : ∀ pins E W, Wish (X.tryc pins E) W → QSs (X.tryc pins E) body (tb W)) (ho : QSs X orelse to) (hs : ∀ x pins, QSs (X.hand x pins fun _ _ => False) (b₀ :: suite) ts) (hg : Gl X cx := by rfl) (hdb : (cx == ("__debug__" : Str)) = false := by decide) :
    QS X (.Try body [.ExceptHandler (some (.Name cx np)) (some n) (b₀ :: suite) hpos] orelse [] pos) (tTryAs X.K D i tb to ts) := ⟨by
  intro pins s σ H En I h
  refine try_go (tb := tb) (wish_try hst hfm fun {σ1 H0 H1 s0 s2 x C T dx} r q => ?_) (hb pins _ _ (wish_try hst hfm fun {σ1 H0 H1 s0 s2 x C T dx} r q => ?_)) ho I h
  all_goals
    obtain ⟨x2, C2, dx2, ex, hx2, sub, q2⟩ := q
    cases ex
    exact hand_as (r.as hx2) sub exD hg hm hdb hN hi hk (hs x pins) q2⟩
end
end L2

set_option maxHeartbeats 4000000
namespace L2
open PySem PySem.Spec PyProof.Rows PySem.W
structure RoomG (k : Nat) (A : Around) : Prop where
  dp : A.depth + 3 * k + 5 < recursionLimit
  un : A.units + 16 * k + 200 < cLine
theorem Room.g {k : Nat} {A : Around} (r : Room k A) : RoomG k A := ⟨r.dp, r.un⟩
theorem RoomG.mono {j k : Nat} {A : Around} (r : RoomG k A) (h : j ≤ k) : RoomG j A := ⟨by have := r.dp; omega, by have := r.un; omega⟩
theorem RoomG.deeper {k : Nat} {A : Around} (r : RoomG (k + 1) A) (env : Env) : RoomG k (A.deeper env) :=
  ⟨by have := r.dp; show A.depth + 1 + 3 * k + 5 < _; omega, by have := r.un; show A.units + 3 + 16 * k + 200 < _; omega⟩
theorem RoomG.depth {k : Nat} {A : Around} (r : RoomG k A) : A.depth < recursionLimit := by have := r.dp; omega
theorem RoomG.units {k : Nat} {A : Around} (r : RoomG k A) : A.units + 64 < cLine := by have := r.un; omega
structure FnOkG (P : Program) (w : World) (K : Frag) (mg : Str → Option Value) (base : Heap) (CX : CXT) (k : Nat) (f : Addr) (fd : FuncData) (ps : List Str) (sp : Sp) : Prop where
  len : ∀ vs H Q E, sp vs H Q E → vs.length = ps.length
  run : ∀ (A : Around) (outer : List Env) (s : Shared) (H : Hp) (args : Args) (us : List Value) (vs : List V) (Q : VK) (E : XK), RoomG k A → HS A base → Env0 P w K mg base A outer s H → BindsTo s fd args (ps.zip us) → Vals vs us → sp vs H Q E →
    codeAny (model P w) A (.call (.ref f) args) (CR (CX A.handled) outer P w H s Q E) s
theorem FnOkG.ok {P : Program} {w : World} {K : Frag} {mg : Str → Option Value} {base : Heap} {CX : CXT} {k : Nat} {f : Addr} {fd : FuncData} {ps : List Str} {sp : Sp} (F : FnOkG P w K mg base CX k f fd ps sp) : FnOk P w K mg base CX k f fd ps sp :=
  ⟨F.len, fun A outer s H args us vs Q E hr e0 => F.run A outer s H args us vs Q E hr.g (.inl hr.hd) e0⟩
section
variable {P : Program} {w : World} {K : Frag} {mg : Str → Option Value} {base : Heap}
theorem fn_ofG {CX : CXT} {x qual : Str} {st : Stmt} {f : Addr} {fd : FuncData} {N ps : List Str} {k : Nat} {sp : Sp} (F : Fun K x qual st f fd) (S : FnScope N ps (defScope st)) (len : ∀ vs H Q E, sp vs H Q E → vs.length = ps.length)
    (hbody : ∀ (cdv : Value) (A : Around) (outer : List Env) (s : Shared) (H : Hp) (vs : List V) (Q : VK) (E : XK), RoomG k (A.deeper (envOfC qual (defScope st) s.heap.objs.size f cdv)) → HS A base → sp vs H Q E →
      ∃ t, PSs (cxOf CX P w K mg base N qual (defScope st) f cdv A outer s H E) (defBody st) t ∧ t { nx := fun _ H' => Q .non H', rt := Q } (start N vs) H) : FnOkG P w K mg base CX (k + 1) f fd ps sp := by
  obtain ⟨oc, od, kV, doc, pm, an, cdv, ct, osl, rfl, lk, hcd⟩ := F.ex
  refine ⟨len, fun A outer s H args us vs Q E hr hs e0 hb r hsp => ?_⟩
  have hl := len _ _ _ _ hsp
  have KX : K.In s.heap := e0.mod.kin.keeps fun b o e => (e0.bs b o e).1
  have lim : s.heap.NoLimit := e0.mod.nolimit.keeps fun b o e => (e0.bs b o e).1
  have hkind : ∀ z ∈ ps.zip us, (defScope st).names.lookup z.1 = some .local ∨ ((defScope st).names.lookup z.1 = some .cell ∧ ((cellsFrom (s.heap.objs.size + 1) (defScope st).names []).lookup z.1).isSome = true) := fun ⟨n, v⟩ hy => by
    rcases S.par n (List.of_mem_zip hy).1 with q | q
    · exact .inl q
    · exact .inr ⟨q, PySem.W.cellsFrom_some _ _ _ (.inl q)⟩
  refine codeAny_call_function hr.depth (KX _ _ lk) rfl S.co S.gen rfl (PySem.W.codeRec_of KX hcd) (hb _ _ _ _ ?_)
  refine wpAny_newFunctionEnv_cells S.kind hkind fun env he s1 x => ?_
  subst he
  refine ⟨lim.keeps x.toInCall.keep, codeAny_func ?_⟩
  obtain ⟨t, ht, hq⟩ := hbody cdv A outer s H vs Q E (hr.deeper _) hs hsp
  have I : Inv (cxOf CX P w K mg base N qual (defScope st) f cdv A outer s H E) [] (start N vs) H s1 := inv_start S hs e0 hl r x
  refine wpAny_mono (ht [] s1 (start N vs) H _ I hq) (fun fl s' hs => ?_) fun e s' hs => hs
  have fin : ∀ {σ' : St} {H' : Hp} {v : V} {u : Value}, Inv (cxOf CX P w K mg base N qual (defScope st) f cdv A outer s H E) [] σ' H' s' → RelV v u → Q v H' → CE outer P w H s Q u s' :=
    fun {σ' H' v u} J rv q => ⟨v, H', J.os, J.bare, J.base, J.hok, rv, q⟩
  cases fl with
  | ret u =>
    obtain ⟨v, σ', H', J, rv, q⟩ := hs
    exact fin J rv q
  | next =>
    obtain ⟨σ', H', J, q⟩ := hs
    exact fin (v := V.non) (u := Value.none) J rfl q
  | brk =>
    obtain ⟨_, _, _, q⟩ := hs
    exact False.elim q
  | cont =>
    obtain ⟨_, _, _, q⟩ := hs
    exact False.elim q
theorem Fun.okG {x qual : Str} {st : Stmt} {f : Addr} {fd : FuncData} {N ps : List Str} {k : Nat} {sp : Sp} (F : Fun K x qual st f fd) (S : FnScope N ps (defScope st)) (len : ∀ vs H Q E, sp vs H Q E → vs.length = ps.length)
    (hbody : ∀ (cdv : Value) (A : Around) (outer : List Env) (s : Shared) (H : Hp) (vs : List V) (Q : VK) (E : XK), RoomG k (A.deeper (envOfC qual (defScope st) s.heap.objs.size f cdv)) → HS A base → sp vs H Q E →
      ∃ t, PSs (cxOf CX0 P w K mg base N qual (defScope st) f cdv A outer s H E).nox (defBody st) t ∧ t { nx := fun _ H' => Q .non H', rt := Q } (start N vs) H) : FnOkG P w K mg base CX0 (k + 1) f fd ps sp :=
  fn_ofG F S len fun cdv A outer s H vs Q E hr hs hsp => by
    obtain ⟨t, h, q⟩ := hbody cdv A outer s H vs Q E hr hs hsp
    exact ⟨t, h.nox, q⟩
theorem Fun.okXG {x qual : Str} {st : Stmt} {f : Addr} {fd : FuncData} {N ps : List Str} {k : Nat} {sp : Sp} (F : Fun K x qual st f fd) (S : FnScope N ps (defScope st)) (len : ∀ vs H Q E, sp vs H Q E → vs.length = ps.length)
    (hbody : ∀ (cdv : Value) (A : Around) (outer : List Env) (s : Shared) (H : Hp) (vs : List V) (Q : VK) (E : XK), RoomG k (A.deeper (envOfC qual (defScope st) s.heap.objs.size f cdv)) → HS A base → sp vs H Q E →
      ∃ t, PSs (cxOf (CX1 P w) P w K mg base N qual (defScope st) f cdv A outer s H E) (defBody st) t ∧ t { nx := fun _ H' => Q .non H', rt := Q } (start N vs) H) : FnOkG P w K mg base (CX1 P w) (k + 1) f fd ps sp := fn_ofG F S len hbody
end
section
variable {X : Cx} {W : St → XK} {k : Nat} {f : Addr} {fd : FuncData} {ps : List Str} {sp : Sp} {x : Str} {st : Stmt} {p pos : Pos} {e : Expr} {es : List Expr} {t : TA}
theorem pcallG (A : FnAt X.K X.mg x st ps f fd) (F : FnOkG X.prog X.w X.K X.mg X.base CX0 k f fd ps sp) (hr : RoomG k X.A) (ha : PA X (e :: es) t) (hc : X.calm = true := by rfl) (hg : Gl X x := by rfl) (hdb : (x == ("__debug__" : Str)) = false := by decide)
    (he : starEach (e :: es) X.env = (false, eval e X.env) :: starEach es X.env := by rfl) (hpl : (backTo pos (starEach es X.env)).any (·.1) = false := by rfl) : PE X (.Call (.Name x p) (e :: es) [] pos) (tCall sp [] E0 t) := by
  intro pins s σ H Q I h
  refine wpAny_Call_Name_kw (ld_glob I hg A.m ?_ hdb)
  refine PySem.W.callWith_K (h₀ := X.base) I.ok.mod.kin A.F.kp (thn (ha pos pins s σ H _ I h) fun us s1 ⟨vs, H1, I1, r, q⟩ => ⟨I1.kIn, ?_⟩) he hpl
  have q : sp (vs ++ []) H1 Q E0 := q
  rw [List.append_nil] at q
  have hl : (us ++ []).length = ps.length := by rw [List.append_nil, ← r.length]; exact F.len _ _ _ _ q
  refine wpAny_call (codeAny_mono (F.run X.A X.stack s1 H1 ⟨us, []⟩ (us ++ []) vs Q E0 hr (I1.ok.hd hc) I1.env0 (A.b s1 us I1.kIn hl) (by rw [List.append_nil]; exact r) q) fun r s' hq => ?_)
  cases r with
  | error e => exact hq.elim
  | ok fl =>
    cases fl with
    | ret u => exact I1.after hq
    | next => exact False.elim hq
    | brk => exact False.elim hq
    | cont => exact False.elim hq
theorem pcallXG (A : FnAt X.K X.mg x st ps f fd) (F : FnOkG X.prog X.w X.K X.mg X.base (CX1 X.prog X.w) k f fd ps sp) (hr : RoomG k X.A) (hw : Wish X W) (ha : PA X (e :: es) t) (hc : X.calm = true := by rfl) (hg : Gl X x := by rfl) (hdb : (x == ("__debug__" : Str)) = false := by decide)
    (he : starEach (e :: es) X.env = (false, eval e X.env) :: starEach es X.env := by rfl) (hpl : (backTo pos (starEach es X.env)).any (·.1) = false := by rfl) : PE X (.Call (.Name x p) (e :: es) [] pos) (tCallX sp W t) := by
  intro pins s σ H Q I h
  refine wpAny_Call_Name_kw (ld_glob I hg A.m ?_ hdb)
  refine PySem.W.callWith_K (h₀ := X.base) I.ok.mod.kin A.F.kp (thn (ha pos pins s σ H _ I h) fun us s1 ⟨vs, H1, I1, r, q⟩ => ⟨I1.kIn, ?_⟩) he hpl
  have q : sp vs H1 Q (W σ) := q
  have hl : (us ++ []).length = ps.length := by rw [List.append_nil, ← r.length]; exact F.len _ _ _ _ q
  refine wpAny_call (codeAny_mono (F.run X.A X.stack s1 H1 ⟨us, []⟩ (us ++ []) vs Q (W σ) hr (I1.ok.hd hc) I1.env0 (A.b s1 us I1.kIn hl) (by rw [List.append_nil]; exact r) q) fun r s' hq => ?_)
  cases r with
  | error e => exact hw.came I1 hq
  | ok fl =>
    cases fl with
    | ret u => exact I1.after hq
    | next => exact False.elim hq
    | brk => exact False.elim hq
    | cont => exact False.elim hq
end
structure FnOkH (P : Program) (w : World) (K : Frag) (mg : Str → Option Value) (base : Heap) (k : Nat) (f : Addr) (fd : FuncData) (ps : List Str) (sp : Sp) : Prop where
  len : ∀ vs H Q E, sp vs H Q E → vs.length = ps.length
  run : ∀ (A : Around) (x : Addr) (outer : List Env) (s : Shared) (H : Hp) (args : Args) (us : List Value) (vs : List V) (Q : VK) (E : XK), RoomG k A → HS A base → Env0 P w K mg base A outer s H → BindsTo s fd args (ps.zip us) → Vals vs us → sp vs H Q E →
    codeAny (model P w) (A.mark (some (.ref x))) (.call (.ref f) args) (CR (CX0 none) outer P w H s Q E) s
section
variable {P : Program} {w : World} {K : Frag} {mg : Str → Option Value} {base : Heap}
theorem Fun.okH {x qual : Str} {st : Stmt} {f : Addr} {fd : FuncData} {N ps : List Str} {k : Nat} {sp : Sp} (F : Fun K x qual st f fd) (S : FnScope N ps (defScope st)) (len : ∀ vs H Q E, sp vs H Q E → vs.length = ps.length)
    (hbody : ∀ (cdv : Value) (A : Around) (outer : List Env) (s : Shared) (H : Hp) (vs : List V) (Q : VK) (E : XK) (y : Addr), RoomG k (A.deeper (envOfC qual (defScope st) s.heap.objs.size f cdv)) → sp vs H Q E →
      ∃ t, PSs ((cxOf CX0 P w K mg base N qual (defScope st) f cdv A outer s H E).hand y [] fun _ _ => False) (defBody st) t ∧ t { nx := fun _ H' => Q .non H', rt := Q } (start N vs) H) : FnOkH P w K mg base (k + 1) f fd ps sp := by
  obtain ⟨oc, od, kV, doc, pm, an, cdv, ct, osl, rfl, lk, hcd⟩ := F.ex
  refine ⟨len, fun A y outer s H args us vs Q E hr hs0 e0 hb r hsp => ?_⟩
  have hl := len _ _ _ _ hsp
  have KX : K.In s.heap := e0.mod.kin.keeps fun b o e => (e0.bs b o e).1
  have lim : s.heap.NoLimit := e0.mod.nolimit.keeps fun b o e => (e0.bs b o e).1
  have hkind : ∀ z ∈ ps.zip us, (defScope st).names.lookup z.1 = some .local ∨ ((defScope st).names.lookup z.1 = some .cell ∧ ((cellsFrom (s.heap.objs.size + 1) (defScope st).names []).lookup z.1).isSome = true) := fun ⟨n, v⟩ hy => by
    rcases S.par n (List.of_mem_zip hy).1 with q | q
    · exact .inl q
    · exact .inr ⟨q, PySem.W.cellsFrom_some _ _ _ (.inl q)⟩
  refine codeAny_call_function (A := A.mark (some (.ref y))) hr.depth (KX _ _ lk) rfl S.co S.gen rfl (PySem.W.codeRec_of KX hcd) (hb _ _ _ _ ?_)
  refine wpAny_newFunctionEnv_cells S.kind hkind fun env he s1 x => ?_
  subst he
  refine ⟨lim.keeps x.toInCall.keep, codeAny_func ?_⟩
  obtain ⟨t, ht, hq⟩ := hbody cdv A outer s H vs Q E y (hr.deeper _) hsp
  have I : Inv (cxOf CX0 P w K mg base N qual (defScope st) f cdv A outer s H E) [] (start N vs) H s1 := inv_start S hs0 e0 hl r x
  refine wpAny_mono (ht [] s1 (start N vs) H _ I.hand hq) (fun fl s' hs => ?_) fun e s' hs => hs.elim
  have fin : ∀ {σ' : St} {H' : Hp} {v : V} {u : Value}, Inv ((cxOf CX0 P w K mg base N qual (defScope st) f cdv A outer s H E).hand y [] fun _ _ => False) [] σ' H' s' → RelV v u → Q v H' → CE outer P w H s Q u s' :=
    fun {σ' H' v u} J rv q => ⟨v, H', J.os, J.bare, J.base, J.hok, rv, q⟩
  cases fl with
  | ret u =>
    obtain ⟨v, σ', H', J, rv, q⟩ := hs
    exact fin J rv q
  | next =>
    obtain ⟨σ', H', J, q⟩ := hs
    exact fin (v := V.non) (u := Value.none) J rfl q
  | brk =>
    obtain ⟨_, _, _, q⟩ := hs
    exact False.elim q
  | cont =>
    obtain ⟨_, _, _, q⟩ := hs
    exact False.elim q
end
section
variable {X : Cx} {k : Nat} {f y : Addr} {fd : FuncData} {ps : List Str} {sp : Sp} {x : Str} {st : Stmt} {p pos : Pos} {e : Expr} {es : List Expr} {t : TA} {pins0 : List (Addr × Obj)} {E0' : Value → Shared → Prop}
theorem pcallH (A : FnAt X.K X.mg x st ps f fd) (F : FnOkH X.prog X.w X.K X.mg X.base k f fd ps sp) (hr : RoomG k X.A) (hs : HS X.A X.base) (ha : PA (X.hand y pins0 E0') (e :: es) t) (hg : Gl (X.hand y pins0 E0') x := by rfl) (hdb : (x == ("__debug__" : Str)) = false := by decide)
    (he : starEach (e :: es) X.env = (false, eval e X.env) :: starEach es X.env := by rfl) (hpl : (backTo pos (starEach es X.env)).any (·.1) = false := by rfl) :
    PE (X.hand y pins0 E0') (.Call (.Name x p) (e :: es) [] pos) (tCall sp [] E0 t) := by
  intro pins s σ H Q I h
  refine wpAny_Call_Name_kw (ld_glob I hg A.m ?_ hdb)
  refine PySem.W.callWith_K (h₀ := X.base) I.ok.mod.kin A.F.kp (thn (ha pos pins s σ H _ I h) fun us s1 ⟨vs, H1, I1, r, q⟩ => ⟨I1.kIn, ?_⟩) he hpl
  have q : sp (vs ++ []) H1 Q E0 := q
  rw [List.append_nil] at q
  have hl : (us ++ []).length = ps.length := by rw [List.append_nil, ← r.length]; exact F.len _ _ _ _ q
  have e0 := I1.env0
  refine wpAny_call (codeAny_mono (F.run X.A y X.stack s1 H1 ⟨us, []⟩ (us ++ []) vs Q E0 hr hs ⟨e0.frames, e0.mod, e0.bs, e0.bsz, e0.funs, e0.frf, e0.hok, e0.bare⟩ (A.b s1 us I1.kIn hl) (by rw [List.append_nil]; exact r) q) fun r s' hq => ?_)
  cases r with
  | error e => exact hq.elim
  | ok fl =>
    cases fl with
    | ret u => exact I1.after hq
    | next => exact False.elim hq
    | brk => exact False.elim hq
    | cont => exact False.elim hq
end
end L2

set_option maxHeartbeats 4000000
namespace L2
open PySem PySem.Spec PyProof.Rows PySem.W
noncomputable def ExN (x C : Addr) (dx : Option Addr) : HO := .ext fun h => ∃ t0 a1 a3 a4 a5, h.get? x = some (excObj C dx #[.ref t0, a1, .none, a3, a4, a5])
section
variable {P : Program} {w : World} {H : Hp} {h : Heap} {x C : Addr} {dx : Option Addr}
theorem exN_ok {t0 : Addr} {a1 a3 a4 a5 : Value} (e : h.get? x = some (excObj C dx #[.ref t0, a1, .none, a3, a4, a5])) : ObjOk P w H h x (ExN x C dx) :=
  ⟨⟨_, _, _, _, _, e⟩, ⟨_, e⟩, fun h1 h2 ⟨t0, a1, a3, a4, a5, q⟩ k => ⟨t0, a1, a3, a4, a5, k _ q⟩⟩
theorem exN_get (hok : HOk P w H h) (e : H x = some (ExN x C dx)) : ∃ t0 a1 a3 a4 a5, h.get? x = some (excObj C dx #[.ref t0, a1, .none, a3, a4, a5]) := (show ObjOk P w H h x (ExN x C dx) from hok x _ e).1
end
section
variable {X : Cx} {pins : List (Addr × Obj)} {σ : St} {H0 H1 : Hp} {s0 s2 : Shared} {x C D T : Addr} {dx : Option Addr} {cx n : Str} {i : Nat} {np hpos pos : Pos} {b₀ : Stmt} {suite body orelse : List Stmt} {rest : List ExceptHandler} {to : TS} {ts : Addr → TS} {En : Ends} {E : Value → Shared → Prop}
theorem Inv.cold {H : Hp} {s : Shared} {fl : Bool} (I : Inv X pins σ H s) (hx : H x = some (ExO fl x C dx)) (hc : Ctx0 s.heap x) : Inv X pins σ (upd H x (ExN x C dx)) s := by
  obtain ⟨t0, a1, a2, a3, a4, a5, e, hfl⟩ := exO_get I.hok hx
  obtain rfl := ctx_eq e hc
  exact I.write (x := x) (e := x) (o := ExN x C dx) (t' := s.toks) (h' := s.heap) (by rw [hx]; exact True.intro) (.inl rfl) (fun b o hb q => q) ⟨_, e⟩ (exN_ok e)
theorem hand_noN (hn : X.A.handled = none) (r : Rz X pins σ H0 s0 H1 x C dx T s2) (sub : Sub X.K C D) (exD : ExC X.K D) (hg : Gl X cx) (hm : X.mg cx = some (.ref D)) (hdb : (cx == ("__debug__" : Str)) = false)
    (hs : QSs (X.hand x pins fun _ _ => False) (b₀ :: suite) (ts x)) (q : ts x En σ (upd H1 x (ExN x C dx))) :
    wpAny (model X.prog X.w) X.A (handleBy (.ref x) X.env (.ExceptHandler (some (.Name cx np)) none (b₀ :: suite) hpos :: rest)) (SP X pins En) E s2 := by
  have Ih := r.inv.hand (x := x) (E := fun _ _ => False)
  refine wpAny_handleBy_cons (codeAny_handlers_test (ld_glob Ih hg hm ?_ hdb)) (by intro z; cases z)
  obtain ⟨nm, q', N, bs, bm, hdct, sn, sb, ab, col, dd, k0, k1, k2, k3, k5, hcl, hT⟩ := exD
  obtain ⟨nm2, q2, N2, bs2, bm2, hdct2, sn2, sb2, ab2, col2, dd2, j0, j1, j2, j3, j5, nid, hcl2, hcon⟩ := sub
  obtain ⟨t0, a1, a2, a3, a4, a5, e, _⟩ := exO_get r.hok r.at_
  refine exc_match (r.inv.kIn _ _ hcl2) (r.inv.kIn _ _ hcl) e rfl (tail_base (hT _ r.inv.kIn)) ?_
  rw [hcon]
  show codeAny _ _ (Code.handlers _ [ExceptHandler.ExceptHandler none none (b₀ :: suite) hpos] _) _ _
  refine codeAny_handlers_suite (r.flight fun s3 r3 => ?_)
  refine wpAny_mono (hs.h [] s3 _ _ _ (r3.inv.cold r3.at_ (r3.ctx hn)).hand q) (fun f s5 q5 => ?_) (fun e s5 z => z.elim)
  cases f with
  | next => obtain ⟨σ', H', I', q'⟩ := q5; exact ⟨_, _, I'.unhand r.inv.ok, q'⟩
  | brk => obtain ⟨σ', H', I', q'⟩ := q5; exact ⟨_, _, I'.unhand r.inv.ok, q'⟩
  | cont => obtain ⟨σ', H', I', q'⟩ := q5; exact ⟨_, _, I'.unhand r.inv.ok, q'⟩
  | ret u => obtain ⟨v, σ', H', I', rv, q'⟩ := q5; exact ⟨v, _, _, I'.unhand r.inv.ok, rv, q'⟩
noncomputable def tTryQ (K : Frag) (D : Addr) (tb : (St → XK) → TS) (to : TS) (ts : Addr → TS) : TS := fun En σ H =>
  tb (fun σ1 e _ H1 => ∃ x C dx, e = .ref x ∧ H1 x = some (ExO false x C dx) ∧ Sub K C D ∧ ts x En σ1 (upd H1 x (ExN x C dx))) { En with nx := fun σ2 H2 => to En σ2 H2 } σ H
theorem qs_tryQ {tb : (St → XK) → TS} (hn : X.A.handled = none) (exD : ExC X.K D) (hm : X.mg cx = some (.ref D)) (hst : X.stack = X.env :: X.outer) (hfm : X.env.frame = some X.env.locals)
    (hb : ∀ pins E W, Wish (X.tryc pins E) W → QSs (X.tryc pins E) body (tb W)) (ho : QSs X orelse to) (hs : ∀ x pins, QSs (X.hand x pins fun _ _ => False) (b₀ :: suite) (ts x)) (hg : Gl X cx := by rfl) (hdb : (cx == ("__debug__" : Str)) = false := by decide) :
    QS X (.Try body [.ExceptHandler (some (.Name cx np)) none (b₀ :: suite) hpos] orelse [] pos) (tTryQ X.K D tb to ts) := ⟨by
  intro pins s σ H En I h
  refine try_go (tb := tb) (wish_try hst hfm fun {σ1 H0 H1 s0 s2 x C T dx} r q => ?_) (hb pins _ _ (wish_try hst hfm fun {σ1 H0 H1 s0 s2 x C T dx} r q => ?_)) ho I h
  all_goals
    obtain ⟨x2, C2, dx2, ex, hx2, sub, q2⟩ := q
    cases ex
    exact hand_noN hn (r.as hx2) sub exD hg hm hdb (hs x pins) q2⟩
end
noncomputable def untr (y : Addr) (H : Hp) : Hp := fun b => if b = y then none else H b
theorem untr_self {y : Addr} {H : Hp} : untr y H y = none := if_pos rfl
theorem untr_ne {y b : Addr} {H : Hp} (h : b ≠ y) : untr y H b = H b := if_neg h
theorem untr_some {y b : Addr} {H : Hp} {o : HO} (h : untr y H b = some o) : b ≠ y ∧ H b = some o := by
  by_cases e : b = y
  · rw [e, untr_self] at h; cases h
  · exact ⟨e, by rwa [untr_ne e] at h⟩
noncomputable def hole : Obj := ⟨.none, none, .freed, #[]⟩
noncomputable def lay (base : Heap) (y : Addr) (o : Obj) : Heap := ⟨Array.ofFn (n := max base.objs.size (y + 1)) fun i => if i.val = y then o else base.objs.getD i.val hole, base.life⟩
theorem lay_size {base : Heap} {y : Addr} {o : Obj} : (lay base y o).objs.size = max base.objs.size (y + 1) := by unfold lay; simp
theorem lay_get {base : Heap} {y b : Addr} {o : Obj} : (lay base y o).objs[b]? = if b < max base.objs.size (y + 1) then some (if b = y then o else base.objs.getD b hole) else none := by
  unfold lay
  rw [Array.getElem?_ofFn]
  split <;> rfl
theorem lay_self {base : Heap} {y : Addr} {o : Obj} (h : o.isFreed = false) : (lay base y o).get? y = some o := by
  unfold Heap.get?
  rw [lay_get, if_pos (Nat.lt_of_lt_of_le (Nat.lt_succ_self y) (Nat.le_max_right _ _)), if_pos rfl]
  obtain ⟨c, d, dat, sl⟩ := o
  cases dat <;> first | rfl | (exact absurd h (by simp [Obj.isFreed]))
theorem lay_ne {base : Heap} {y b : Addr} {o : Obj} (h : b ≠ y) : (lay base y o).get? b = base.get? b := by
  unfold Heap.get?
  rw [lay_get]
  by_cases hb : b < base.objs.size
  · rw [if_pos (Nat.lt_of_lt_of_le hb (Nat.le_max_left _ _)), if_neg h, Array.getD_eq_getD_getElem?, Array.getElem?_eq_getElem hb]
    rfl
  · have e : base.objs[b]? = none := Array.getElem?_eq_none (Nat.not_lt.mp hb)
    rw [Array.getD_eq_getD_getElem?, e, if_neg h]
    by_cases hm : b < max base.objs.size (y + 1)
    · rw [if_pos hm]; rfl
    · rw [if_neg hm]
theorem lay_in {base : Heap} {y b : Addr} {o u : Obj} (h : base.get? y = none) (e : base.get? b = some u) : (lay base y o).get? b = some u := by
  rw [lay_ne (fun z => by rw [z, h] at e; cases e)]; exact e
theorem Mod.lay {K : Frag} {mg : Str → Option Value} {base : Heap} {y : Addr} {o : Obj} (m : Mod K mg base) (h : base.get? y = none) : Mod K mg (lay base y o) :=
  ⟨m.kin.keeps fun b u e => lay_in h e, m.glob.keeps fun b u e => lay_in h e, by obtain ⟨mb, n, q⟩ := m.blt; exact ⟨mb, n.keeps fun b u e => lay_in h e, q⟩, m.nolimit.keeps fun b u e => lay_in h e⟩
theorem funs_lay {h base : Heap} {y : Addr} {o oy : Obj} {vs : Array Value} (hy : h.get? y = some oy) (hd : oy.data = .fields vs) : ∀ {l : List Env}, h.FunFrames base l → h.FunFrames (lay base y o) l
  | [], _ => trivial
  | env :: rest, ⟨k, ⟨L, ob, e1, e2, e3, e4⟩, r⟩ => ⟨k, ⟨L, ob, e1, by rw [lay_ne (fun z => by rw [z, hy] at e3; cases e3; exact e4 _ hd)]; exact e2, e3, e4⟩, funs_lay hy hd r⟩
section
variable {X : Cx} {k : Nat} {f y : Addr} {fd : FuncData} {ps : List Str} {sp : Sp} {x : Str} {st : Stmt} {p pos : Pos} {e : Expr} {es : List Expr} {t : TA} {pins0 : List (Addr × Obj)} {E0' : Value → Shared → Prop}
noncomputable def tCallQ (y : Addr) (sp : Sp) (t : TA) : TE := fun σ H Q => t σ H fun vs H1 => ∃ C dx, H1 y = some (ExN y C dx) ∧ sp vs (untr y H1) (fun v H2 => H2 y = none → Q v (upd H2 y (ExN y C dx))) E0
theorem pcallQ (A : FnAt X.K X.mg x st ps f fd) (F : ∀ base : Heap, FnOkG X.prog X.w X.K X.mg base CX0 k f fd ps sp) (hr : RoomG k X.A) (ha : PA (X.hand y pins0 E0') (e :: es) t) (hg : Gl (X.hand y pins0 E0') x := by rfl) (hdb : (x == ("__debug__" : Str)) = false := by decide)
    (he : starEach (e :: es) X.env = (false, eval e X.env) :: starEach es X.env := by rfl) (hpl : (backTo pos (starEach es X.env)).any (·.1) = false := by rfl) :
    PE (X.hand y pins0 E0') (.Call (.Name x p) (e :: es) [] pos) (tCallQ y sp t) := by
  intro pins s σ H Q I h
  refine wpAny_Call_Name_kw (ld_glob I hg A.m ?_ hdb)
  refine PySem.W.callWith_K (h₀ := X.base) I.ok.mod.kin A.F.kp (thn (ha pos pins s σ H _ I h) fun us s1 ⟨vs, H1, I1, r, q⟩ => ⟨I1.kIn, ?_⟩) he hpl
  obtain ⟨C, dx, hy, q⟩ := q
  obtain ⟨t0, a1, a3, a4, a5, ey⟩ := exN_get I1.hok hy
  have hl : (us ++ []).length = ps.length := by rw [List.append_nil, ← r.length]; exact (F X.base).len _ _ _ _ q
  have e0 := I1.env0
  have hyb : X.base.get? y = none := by
    cases z : X.base.get? y with
    | none => rfl
    | some o => have := (e0.bs y o z).2; rw [hy] at this; cases this
  have nf : y ∉ frs X.stack := fun z => by have := e0.frf y z; rw [hy] at this; cases this
  have e1 : Env0 X.prog X.w X.K X.mg (lay X.base y (excObj C dx #[.ref t0, a1, .none, a3, a4, a5])) (X.hand y pins0 E0').A X.stack s1 (untr y H1) := by
    refine ⟨e0.frames, e0.mod.lay hyb, fun b o z => ?_, ?_, funs_lay ey rfl e0.funs, fun b hb => ?_, fun a o z => ?_, e0.bare⟩
    · by_cases hb : b = y
      · subst hb
        rw [lay_self rfl] at z
        cases z
        exact ⟨ey, untr_self⟩
      · rw [lay_ne hb] at z
        exact ⟨(e0.bs b o z).1, by rw [untr_ne hb]; exact (e0.bs b o z).2⟩
    · rw [lay_size]
      exact Nat.max_le.mpr ⟨e0.bsz, Heap.lt_size ey⟩
    · rw [untr_ne fun z => nf (by rw [← z]; exact hb)]; exact e0.frf b hb
    · obtain ⟨hay, z⟩ := untr_some z
      refine (e0.hok a o z).stay (fun _ _ _ w => w) (fun b w => ?_) fun b xs w => ?_
      · rw [untr_ne fun z => by rw [z, hy] at w; cases w]; exact w
      · rw [untr_ne fun z => by rw [z, hy] at w; cases w]; exact w
  have hh : HS (X.hand y pins0 E0').A (lay X.base y (excObj C dx #[.ref t0, a1, .none, a3, a4, a5])) := .inr ⟨y, _, _, rfl, lay_self rfl, rfl, rfl⟩
  refine wpAny_call (codeAny_mono ((F _).run (X.hand y pins0 E0').A X.stack s1 (untr y H1) ⟨us, []⟩ (us ++ []) vs _ E0 ⟨hr.dp, hr.un⟩ hh e1 (A.b s1 us I1.kIn hl) (by rw [List.append_nil]; exact r) q) fun r s' hq => ?_)
  cases r with
  | error e => exact hq.elim
  | ok fl =>
    cases fl with
    | ret u =>
      obtain ⟨v, H', os, bare, un, hok, rv, q⟩ := hq
      have hy' : H' y = none := un.free y _ ey untr_self (by simp)
      have ey' := un.keep y _ ey untr_self nf (by simp)
      refine I1.after (H := H1) ⟨v, upd H' y (ExN y C dx), os, bare, ⟨fun b o z n hb hx => ?_, fun b o z n hb hx => ?_, fun b o z n hx => ?_, un.there, fun b xs z => ?_, fun b o u z => ?_, fun b ps z => ?_⟩, fun a o z => ?_, rv, q hy'⟩
      · have hb' : b ≠ y := fun w => by rw [w, hy] at n; cases n
        exact un.keep b o z (by rw [untr_ne hb']; exact n) hb hx
      · have hb' : b ≠ y := fun w => by rw [w, hy] at n; cases n
        exact un.slot b o z (by rw [untr_ne hb']; exact n) hb hx
      · have hb' : b ≠ y := fun w => by rw [w, hy] at n; cases n
        rw [upd_ne hb']
        exact un.free b o z (by rw [untr_ne hb']; exact n) hx
      · have hb' : b ≠ y := fun w => by rw [w, hy] at z; cases z
        rw [upd_ne hb']
        exact un.tups b xs (by rw [untr_ne hb']; exact z)
      · have hb' : b ≠ y := fun w => by rw [w, hy] at z; cases z
        rw [upd_ne hb']
        exact un.frzs b o u (by rw [untr_ne hb']; exact z)
      · have hb' : b ≠ y := fun w => by rw [w, hy] at z; cases z
        obtain ⟨m, z2⟩ := un.tbls b ps (by rw [untr_ne hb']; exact z)
        exact ⟨m, by rw [upd_ne hb']; exact z2⟩
      · by_cases ha : a = y
        · subst ha
          rw [upd_same] at z
          cases z
          exact exN_ok ey'
        · rw [upd_ne ha] at z
          refine (hok a o z).stay (fun _ _ _ w => w) (fun b w => ?_) fun b xs w => ?_
          · rw [upd_ne fun z => by rw [z, hy'] at w; cases w]; exact w
          · rw [upd_ne fun z => by rw [z, hy'] at w; cases w]; exact w
    | next => exact False.elim hq
    | brk => exact False.elim hq
    | cont => exact False.elim hq
end
end L2

set_option maxHeartbeats 4000000
namespace Mine
open PySem PySem.Spec PyProof.Rows L2 PySem.Builtin PySem.Builtin.Str
theorem inL_iff {c : Nat} : inL c = true ↔ 97 ≤ c ∧ c ≤ 122 := by
  refine ⟨fun h => ?_, fun h => inL_let h.1 h.2⟩
  unfold inL at h
  rw [StrLaws.found_one, decide_eq_true_eq] at h
  have : ∀ n ∈ letters.cps.toList, 97 ≤ n ∧ n ≤ 122 := by decide +kernel
  exact this c h
theorem inF_iff {c : Nat} : inF c = true ↔ 48 ≤ c ∧ c ≤ 57 := by
  refine ⟨fun h => ?_, fun h => inF_dig h.1 h.2⟩
  unfold inF at h
  rw [StrLaws.found_one, decide_eq_true_eq] at h
  have : ∀ n ∈ figs.cps.toList, 48 ≤ n ∧ n ≤ 57 := by decide +kernel
  exact this c h
theorem nmB_iff {z : Str} : nmB z = true ↔ IsNm z := by
  refine ⟨fun h => ?_, IsNm.nmB⟩
  unfold nmB at h
  rw [Bool.and_eq_true, Bool.and_eq_true, decide_eq_true_eq, decide_eq_true_eq, List.all_eq_true] at h
  exact ⟨h.1.1, h.1.2, fun n hn => inL_iff.mp (h.2 n hn)⟩
theorem digit_code {d : Nat} (h : d < 10) : (Nat.toDigits 10 d).map Char.toNat = [48 + d] := by
  rw [Nat.toDigits_of_lt_base h]
  have : ∀ n : Fin 10, [Nat.digitChar n.val].map Char.toNat = [48 + n.val] := by decide
  exact this ⟨d, h⟩
theorem digits_of : ∀ (n : Nat) (ds : List Nat), ds.length = n → ds ≠ [] → (∀ d ∈ ds, 48 ≤ d ∧ d ≤ 57) → (ds.head? = some 48 → ds = [48]) → ∃ m, (Nat.toDigits 10 m).map Char.toNat = ds := by
  intro n
  induction n using Nat.strongRecOn with
  | _ n ih =>
    intro ds hn h0 hd hh
    have e := List.dropLast_concat_getLast h0
    have hl := hd _ (List.getLast_mem h0)
    generalize ds.getLast h0 = d at e hl
    by_cases hi : ds.dropLast = []
    · rw [hi, List.nil_append] at e
      refine ⟨d - 48, ?_⟩
      rw [digit_code (by omega), ← e, show 48 + (d - 48) = d from by omega]
    · have hlen : ds.dropLast.length < n := by rw [List.length_dropLast, hn]; have := List.length_pos_iff.mpr h0; omega
      have h2 : 2 ≤ ds.length := by have := List.length_pos_iff.mpr hi; rw [List.length_dropLast] at this; omega
      have hhd : ds.dropLast.head? = ds.head? := by
        cases hq : ds.dropLast with
        | nil => exact absurd hq hi
        | cons a r => rw [hq] at e; rw [← e]; rfl
      have hno : ds.dropLast.head? ≠ some 48 := fun z => by
        rw [hhd] at z
        have := hh z
        rw [this] at h2
        simp at h2
      obtain ⟨m, hm⟩ := ih _ hlen ds.dropLast rfl hi (fun x hx => hd x ((List.dropLast_sublist ds).subset hx)) (fun z => absurd z hno)
      have hm0 : 0 < m := by
        rcases Nat.eq_zero_or_pos m with z | z
        · subst z
          rw [digit_code (by decide)] at hm
          exact absurd (by rw [← hm]; rfl) hno
        · exact z
      refine ⟨10 * m + (d - 48), ?_⟩
      rw [← Nat.toDigits_append_toDigits (b := 10) (n := m) (d := d - 48) (by decide) hm0 (by omega), List.map_append, hm, digit_code (by omega), show 48 + (d - 48) = d from by omega, e]
theorem zero_codes : zero.cps.toList = [48] := by decide +kernel
theorem numB_num {z : Str} (h : numB z = true) : ∃ m, m < 10 ^ 20 ∧ z = numS m := by
  unfold numB at h
  simp only [Bool.and_eq_true, decide_eq_true_eq, List.all_eq_true, Bool.not_eq_true', Bool.and_eq_false_iff, decide_eq_false_iff_not, Bool.not_eq_false', Bool.not_eq_true] at h
  obtain ⟨⟨⟨h1, h2⟩, h3⟩, h4⟩ := h
  have h0 : z.cps.toList ≠ [] := fun e => by rw [strLen, e] at h1; simp at h1
  obtain ⟨m, hm⟩ := digits_of _ z.cps.toList rfl h0 (fun d hd => inF_iff.mp (h4 d hd)) (fun e => by
    rcases h3 with k | k
    · exact absurd e k
    · have k : z = zero := by simpa using k
      rw [k, zero_codes])
  have e : z = numS m := strExt (by rw [numS_codes, hm])
  refine ⟨m, ?_, e⟩
  have : (Nat.toDigits 10 m).length ≤ 20 := by rw [strLen, ← hm, List.length_map] at h2; exact h2
  exact (Nat.length_toDigits_le_iff (by decide) (by decide)).mp this
noncomputable def pthB (n : Nat) (z : Str) : Bool := decide (((Txt.split z ("." : Str)).length : Int) ≤ (n : Int)) && (Txt.split z ("." : Str)).all nmB
theorem pthB_mp {n : Nat} {z : Str} (h : pthB n z = true) : ∃ ys, ys ≠ [] ∧ ys.length ≤ n ∧ (∀ y ∈ ys, IsNm y) ∧ z = dotted ys := by
  unfold pthB at h
  rw [Bool.and_eq_true, decide_eq_true_eq, List.all_eq_true] at h
  refine ⟨Txt.split z ("." : Str), ?_, by omega, fun y hy => nmB_iff.mp (h.2 y hy), ?_⟩
  · rw [dot_eq]; exact split_ne _ _
  · rw [dotted_join, dot_eq]; exact (StrLaws.join_split z _).symm
theorem pthB_mpr {n : Nat} {ys : List Str} (h0 : ys ≠ []) (h1 : ys.length ≤ n) (hn : ∀ y ∈ ys, IsNm y) : pthB n (dotted ys) = true := by
  unfold pthB
  rw [dotted_split ys h0 hn, decide_eq_true (by omega), List.all_eq_true.mpr fun y hy => (hn y hy).nmB]; rfl
theorem pth4 {z : Str} : pthB 4 z = true ↔ ∃ ys, GoodN ys ∧ z = dotted ys := by
  refine ⟨fun h => ?_, fun ⟨ys, g, e⟩ => by rw [e]; exact pthB_mpr g.lo g.hi g.nm⟩
  obtain ⟨ys, a, b, c, e⟩ := pthB_mp h
  exact ⟨ys, ⟨a, b, c⟩, e⟩
theorem ends_app {z : Str} (h : Txt.endswith z brk = true) : ∃ a, z = a ++ brk := by
  obtain ⟨pre, e⟩ := ends_tail h
  exact ⟨⟨pre.toArray⟩, strExt (by rw [strApp, brk_codes, e])⟩
theorem app_brk_inj {a b : Str} (h : a ++ brk = b ++ brk) : a = b := by
  apply strExt
  have := congrArg (fun x : Str => x.cps.toList) h
  simp only [strApp] at this
  exact List.append_cancel_right this
noncomputable def RdW (z : Str) : Prop := ∃ th, GoodTh th ∧ z = wordOf th
theorem not_rdC {a : Str} (hn : numB (a ++ brk) = false) (h : pthB 4 a = false) : ¬ RdW (a ++ brk) := by
  rintro ⟨th, g, e⟩
  cases th with
  | num m => rw [e] at hn; have := (numS_ok (show m < 10 ^ 20 from g)).1; rw [show wordOf (.num m) = numS m from rfl, this] at hn; cases hn
  | nms c ys =>
    cases c with
    | true => rw [app_brk_inj (show a ++ brk = dotted ys ++ brk from e), pth4.mpr ⟨ys, g, rfl⟩] at h; cases h
    | false =>
      have k := ends_path (GoodN.nm g)
      rw [← (show a ++ brk = dotted ys from e), ends_call] at k
      cases k
theorem not_rdP {z : Str} (hn : numB z = false) (he : Txt.endswith z brk = false) (h : pthB 4 z = false) : ¬ RdW z := by
  rintro ⟨th, g, e⟩
  cases th with
  | num m => rw [e] at hn; have := (numS_ok (show m < 10 ^ 20 from g)).1; rw [show wordOf (.num m) = numS m from rfl, this] at hn; cases hn
  | nms c ys =>
    cases c with
    | true => rw [show z = dotted ys ++ brk from e, ends_call] at he; cases he
    | false => rw [show z = dotted ys from e, pth4.mpr ⟨ys, g, rfl⟩] at h; cases h
theorem dotted_inj {ys zs : List Str} (gy : GoodN ys) (gz : GoodN zs) (e : dotted ys = dotted zs) : ys = zs := by
  have := dotted_split ys gy.lo gy.nm
  rw [e, dotted_split zs gz.lo gz.nm] at this
  exact this.symm
theorem numS_inj {m n : Nat} (hm : m < 10 ^ 20) (hn : n < 10 ^ 20) (e : numS m = numS n) : m = n := by
  have h1 := (numS_ok hm).2.2.2
  rw [e, (numS_ok hn).2.2.2] at h1
  have := Option.some.inj h1
  omega
theorem num_nms {m : Nat} {c : Bool} {ys : List Str} (hm : m < 10 ^ 20) (g : GoodN ys) (e : numS m = wordOf (.nms c ys)) : False := by
  obtain ⟨lc, hlc, lo, hi⟩ := dotted_letter g.lo g.nm
  have : lc ∈ (wordOf (.nms c ys)).cps.toList := by
    cases c with
    | true => show lc ∈ (dotted ys ++ brk).cps.toList; rw [strApp]; exact List.mem_append_left _ hlc
    | false => exact hlc
  rw [← e] at this
  have := digit_range this
  omega
theorem wordOf_inj {a b : Thg} (ga : GoodTh a) (gb : GoodTh b) (e : wordOf a = wordOf b) : a = b := by
  cases a with
  | num m =>
    cases b with
    | num n => rw [numS_inj ga gb e]
    | nms c ys => exact (num_nms ga gb e).elim
  | nms c ys =>
    cases b with
    | num n => exact (num_nms gb ga e.symm).elim
    | nms d zs =>
      cases c with
      | true =>
        cases d with
        | true => rw [dotted_inj ga gb (app_brk_inj e)]
        | false =>
          have k := ends_path (GoodN.nm gb)
          rw [← (show dotted ys ++ brk = dotted zs from e), ends_call] at k
          cases k
      | false =>
        cases d with
        | true =>
          have k := ends_path (GoodN.nm ga)
          rw [(show dotted ys = dotted zs ++ brk from e), ends_call] at k
          cases k
        | false => rw [dotted_inj ga gb e]
theorem sgw_inj {a b : Int} (ha : a = 1 ∨ a = -1) (hb : b = 1 ∨ b = -1) (e : sgw a = sgw b) : a = b := by
  rcases ha with rfl | rfl <;> rcases hb with rfl | rfl
  · rfl
  · exact absurd e (by decide +kernel)
  · exact absurd e (by decide +kernel)
  · rfl
theorem words_even {ts : List Trm} (g : GoodTs ts) {i : Nat} {w : Str} (h : (wordsOf ts)[2 * i]? = some w) : RdW w := by
  cases ts with
  | nil => exact absurd rfl g.lo
  | cons t0 tr =>
    cases i with
    | zero => cases h; exact ⟨t0.th, (g.ok t0 List.mem_cons_self).th, rfl⟩
    | succ i =>
      have hl := wordsOf_len g.lo
      have hi := (List.getElem?_eq_some_iff.mp h).1
      rw [List.length_cons] at hl
      have hti : (t0 :: tr)[i + 1]? = some (tr[i]'(by omega)) := by simp
      have := (words_at hti).2
      rw [show 2 * (i + 1) = 2 * i + 2 from by omega, this] at h
      cases h
      exact ⟨_, (g.ok _ (List.mem_cons_of_mem _ (List.getElem_mem (by omega)))).th, rfl⟩
theorem words_odd {ts : List Trm} (g : GoodTs ts) {i : Nat} {w : Str} (h : (wordsOf ts)[2 * i + 1]? = some w) : ∃ s : Int, (s = 1 ∨ s = -1) ∧ w = sgw s := by
  cases ts with
  | nil => exact absurd rfl g.lo
  | cons t0 tr =>
    have hl := wordsOf_len g.lo
    have hi := (List.getElem?_eq_some_iff.mp h).1
    rw [List.length_cons] at hl
    have hti : (t0 :: tr)[i + 1]? = some (tr[i]'(by omega)) := by simp
    have := (words_at hti).1
    rw [this] at h
    cases h
    exact ⟨_, (g.ok _ (List.mem_cons_of_mem _ (List.getElem_mem (by omega)))).sg, rfl⟩
theorem wordsOf_inj {ts us : List Trm} (gt : GoodTs ts) (gu : GoodTs us) (e : wordsOf ts = wordsOf us) : ts = us := by
  have l1 := wordsOf_len gt.lo
  have l2 := wordsOf_len gu.lo
  have p1 := List.length_pos_iff.mpr gt.lo
  have p2 := List.length_pos_iff.mpr gu.lo
  have hl : ts.length = us.length := by rw [e] at l1; omega
  have tr_ext : ∀ {a b : Trm}, a.sg = b.sg → a.th = b.th → a = b := fun {a b} x y => by cases a; cases b; cases x; cases y; rfl
  refine List.ext_getElem hl fun i h1 h2 => ?_
  cases i with
  | zero =>
    cases ts with
    | nil => exact absurd rfl gt.lo
    | cons t0 tr =>
      cases us with
      | nil => exact absurd rfl gu.lo
      | cons u0 ur =>
        refine tr_ext ((gt.hd t0 rfl).trans (gu.hd u0 rfl).symm) (wordOf_inj (gt.ok t0 List.mem_cons_self).th (gu.ok u0 List.mem_cons_self).th ?_)
        have := congrArg (·[0]?) e
        exact Option.some.inj this
  | succ i =>
    obtain ⟨a1, a2⟩ := words_at (ts := ts) (i := i) (List.getElem?_eq_getElem h1)
    obtain ⟨b1, b2⟩ := words_at (ts := us) (i := i) (List.getElem?_eq_getElem h2)
    rw [e, b1] at a1
    rw [e, b2] at a2
    have ga := gt.ok _ (List.getElem_mem h1)
    have gb := gu.ok _ (List.getElem_mem h2)
    exact tr_ext (sgw_inj ga.sg gb.sg (Option.some.inj a1).symm) (wordOf_inj ga.th gb.th (Option.some.inj a2).symm)
noncomputable def RdE (ws : List Str) : Prop := ∃ ts, GoodTs ts ∧ ws = wordsOf ts
theorem rdE_len {ws : List Str} (h : RdE ws) : ws.length % 2 = 1 ∧ ws.length ≤ 11 := by
  obtain ⟨ts, g, rfl⟩ := h
  have := wordsOf_len g.lo
  have := g.hi
  have := List.length_pos_iff.mpr g.lo
  omega
theorem rdE_even {ws : List Str} (h : RdE ws) {i : Nat} {w : Str} (e : ws[2 * i]? = some w) : RdW w := by
  obtain ⟨ts, g, rfl⟩ := h
  exact words_even g e
theorem rdE_odd {ws : List Str} (h : RdE ws) {i : Nat} {w : Str} (e : ws[2 * i + 1]? = some w) : ∃ s : Int, (s = 1 ∨ s = -1) ∧ w = sgw s := by
  obtain ⟨ts, g, rfl⟩ := h
  exact words_odd g e
structure RdTo (ws : List Str) (i : Nat) (ts : List Trm) : Prop where
  lo : ts.length = i + 1
  ok : ∀ t ∈ ts, GoodT t
  hd : ∀ t, ts.head? = some t → t.sg = 1
  ws : wordsOf ts = ws.take (2 * i + 1)
theorem RdTo.first {ws : List Str} {th : Thg} (g : GoodTh th) (e : ws[0]? = some (wordOf th)) : RdTo ws 0 [⟨1, th⟩] := by
  refine ⟨rfl, fun t ht => ?_, fun t ht => ?_, ?_⟩
  · rw [List.mem_singleton.mp ht]; exact ⟨.inl rfl, g⟩
  · cases ht; rfl
  · cases ws with
    | nil => cases e
    | cons w r => cases e; rfl
theorem RdTo.next {ws : List Str} {i : Nat} {ts : List Trm} (h : RdTo ws i ts) {s : Int} {th : Thg} (hs : s = 1 ∨ s = -1) (g : GoodTh th) (e1 : ws[2 * i + 1]? = some (sgw s)) (e2 : ws[2 * i + 2]? = some (wordOf th)) : RdTo ws (i + 1) (ts ++ [⟨s, th⟩]) := by
  have h0 : ts ≠ [] := fun z => by have := h.lo; rw [z] at this; cases this
  refine ⟨by rw [List.length_append, h.lo]; rfl, fun t ht => ?_, fun t ht => ?_, ?_⟩
  · rcases List.mem_append.mp ht with k | k
    · exact h.ok t k
    · rw [List.mem_singleton.mp k]; exact ⟨hs, g⟩
  · cases ts with
    | nil => exact absurd rfl h0
    | cons a r => exact h.hd t ht
  · have k : ws.take (2 * i + 1 + 1 + 1) = ws.take (2 * i + 1) ++ [sgw s, wordOf th] := by
      rw [List.take_succ (i := 2 * i + 1 + 1), e2, List.take_succ (i := 2 * i + 1), e1]
      simp
    rw [wordsOf_snoc _ h0, h.ws, show 2 * (i + 1) + 1 = 2 * i + 1 + 1 + 1 from by omega, k]
theorem RdTo.all {ws : List Str} {i : Nat} {ts : List Trm} (h : RdTo ws i ts) (hl : ws.length = 2 * i + 1) (h6 : i ≤ 5) : GoodTs ts ∧ ws = wordsOf ts := by
  refine ⟨⟨fun z => (by have := h.lo; rw [z] at this; cases this), by have := h.lo; omega, h.ok, h.hd⟩, ?_⟩
  rw [h.ws, List.take_of_length_le (by omega)]
end Mine

set_option maxHeartbeats 4000000
namespace L2
open PySem PySem.Spec PyProof.Rows PySem.W
theorem comp_strF {z : Str} {tf : TT} {te : TE} {τ0 : L2.St} {H : Hp} {Fin : List V → Hp → Prop} (p : Nat → Bool) (f : Nat → V) (hn : z.length ≤ sizeLine)
    (htf : ∀ c H' Q, Same H H' → Q (p c) H' → tf (τ0.set 0 (some (.str ⟨#[c]⟩))) H' Q)
    (hte : ∀ c H' Q, c ∈ z.cps.toList → Same H H' → (∀ H'', Same H' H'' → Q (f c) H'') → te (τ0.set 0 (some (.str ⟨#[c]⟩))) H' Q)
    (hfin : ∀ H', Same H H' → Fin ((z.cps.toList.filter p).map f) H') : CompW (gName 0) tf te (Its z) τ0 H Fin := by
  have hz : z.cps.size = z.cps.toList.length := by simp
  have hn' : z.cps.toList.length ≤ sizeLine := by rw [← hz]; exact hn
  refine ⟨fun i m τ ys H' => m = z.cps.size - i ∧ i ≤ z.cps.size ∧ ys = ((z.cps.toList.take i).filter p).map f ∧ Same H H' ∧ ∃ v, τ = τ0.set 0 v ∨ τ = τ0, ⟨z.cps.size, rfl, Nat.zero_le _, rfl, Same.refl _, none, .inr rfl⟩, ?_⟩
  rintro i m τ ys H' ⟨rfl, hi, rfl, sm, v, hτ⟩
  by_cases hlt : i < z.cps.size
  · refine .inr ⟨hlt, fun x H'' y => ?_⟩
    obtain ⟨e, c, hc, y⟩ := y
    subst e y
    have e2 : τ.set 0 (some (V.str ⟨#[c]⟩)) = τ0.set 0 (some (V.str ⟨#[c]⟩)) := by
      rcases hτ with rfl | rfl
      · rw [List.set_set]
      · rfl
    unfold gName
    rw [e2]
    have hl : ((z.cps.toList.take i).filter p).length ≤ i := Nat.le_trans (List.length_filter_le _ _) (by rw [List.length_take]; omega)
    refine htf c H'' _ sm ?_
    dsimp only
    cases hp : p c with
    | true =>
      rw [if_pos rfl]
      refine hte c H'' _ (List.mem_of_getElem? hc) sm fun H4 s4 => ?_
      refine ⟨by rw [List.length_map]; omega, z.cps.size - (i + 1), by omega, rfl, hlt, ?_, sm.trans s4, _, .inl rfl⟩
      rw [List.take_add_one, hc, List.filter_append, List.map_append]
      simp [hp]
    | false =>
      rw [if_neg (by decide)]
      refine ⟨z.cps.size - (i + 1), by omega, rfl, hlt, ?_, sm, _, .inl rfl⟩
      rw [List.take_add_one, hc, List.filter_append]
      simp [hp]
  · have e : i = z.cps.size := by omega
    subst e
    exact .inl ⟨Nat.le_refl _, by have := hfin H' sm; rw [hz, List.take_length]; exact this⟩
section
variable {X : Cx}
theorem op_inK {K : PySem.W.Frag} (h : X.K = K) : OpR X (compareOp .In) (rIn K false) := by subst h; exact op_in_seq
end
end L2
namespace Mine
open PySem PySem.Spec PyProof.Rows L2 PySem.Builtin PySem.Builtin.Str
theorem tail2_iff {z : Str} : Txt.slice z (some (-2)) none = brk ↔ Txt.endswith z brk = true := by
  by_cases h2 : 2 ≤ z.length
  · have := slice_closes_from_neg (x := z) (i := -2) (a := (z.length : Int) - 2) (b := (z.length : Int)) (by decide) (by omega) (by omega) rfl
    have e := eq_of_beq this
    have en : ((z.length : Int) - 2).toNat = z.length - 2 := by omega
    have et : ((z.length : Int) - ((z.length : Int) - 2)).toNat = 2 := by omega
    rw [en, et] at e
    rw [e]
    constructor
    · intro k
      have k2 := congrArg (fun x : Str => x.cps.toList) k
      simp only [brk_codes] at k2
      have k3 : (z.cps.toList.drop (z.length - 2)).take 2 = [40, 41] := k2
      have hl : (z.cps.toList.drop (z.length - 2)).length ≤ 2 := by rw [List.length_drop, ← strLen]; omega
      rw [List.take_of_length_le hl] at k3
      have ez : z = (⟨(z.cps.toList.take (z.length - 2)).toArray⟩ : Str) ++ brk := strExt (by rw [strApp, brk_codes, ← k3]; simp)
      rw [ez]; exact ends_call _
    · intro k
      obtain ⟨a, rfl⟩ := ends_app k
      apply strExt
      rw [appLen, brk_len, brk_codes]
      show ((a ++ brk).cps.toList.drop (a.length + 2 - 2)).take 2 = [40, 41]
      rw [strApp, brk_codes, show a.length + 2 - 2 = a.length from by omega, strLen, List.drop_left]; rfl
  · constructor
    · intro k
      have := Txt.slice_le z (some (-2)) none
      rw [k, brk_len] at this
      omega
    · intro k
      obtain ⟨a, rfl⟩ := ends_app k
      rw [appLen, brk_len] at h2
      omega
theorem figs_rd {z : Str} (hf : z.cps.toList.all inF = true) (h : RdW z) : numB z = true := by
  obtain ⟨th, g, e⟩ := h
  cases th with
  | num m => rw [e]; exact (numS_ok g).1
  | nms c ys =>
    obtain ⟨lc, hlc, lo, hi⟩ := dotted_letter (GoodN.lo g) (GoodN.nm g)
    have : lc ∈ z.cps.toList := by
      rw [e]
      cases c with
      | true => show lc ∈ (dotted ys ++ brk).cps.toList; rw [strApp]; exact List.mem_append_left _ hlc
      | false => exact hlc
    have := inF_iff.mp (List.all_eq_true.mp hf lc this)
    omega
section
open PySem PySem.Spec PyProof.Rows L2 PySem.Builtin PySem.Builtin.Str
theorem foldl_size {a : Array Nat} : ∀ (k : Nat) (acc : Array Nat), ((List.replicate k a).foldl (· ++ ·) acc).size = acc.size + k * a.size
  | 0, acc => by simp
  | k + 1, acc => by
    rw [List.replicate_succ, List.foldl_cons, foldl_size k (acc ++ a), Array.size_append, Nat.add_mul]
    omega
theorem mul1 {z : Str} (h1 : z.length = 1) {n : Int} (h0 : 0 ≤ n) (h2 : n ≤ 6000) : MulOk z n ∧ (Txt.mul z n).length ≤ n.toNat := by
  refine ⟨⟨?_, fun hn _ => ?_, fun hn _ => ?_⟩, ?_⟩
  · rw [Bool.or_eq_false_iff]; exact ⟨decide_eq_false (by omega), decide_eq_false (by omega)⟩
  · rw [h1]
    have : (1 : Int) ≤ (2 ^ 63 - 1) / n := (Int.le_ediv_iff_mul_le (by omega)).mpr (by omega)
    omega
  · rw [h1]
    unfold tooLong
    simp only [decide_eq_false_iff_not]
    have : n.toNat ≤ 6000 := by omega
    exact fun k => absurd (Nat.le_trans (Nat.le_of_lt k) (by omega : 1 * n.toNat ≤ 6000)) (by decide)
  · unfold Txt.mul
    split
    · exact Nat.zero_le _
    · split
      · rw [h1]; omega
      · show Array.size _ ≤ _
        rw [foldl_size]
        have : z.cps.size = 1 := h1
        rw [this]; simp
end
end Mine

set_option maxHeartbeats 4000000
namespace Mine
open PySem PySem.Spec PyProof.Rows L2
noncomputable def top (i : Nat) : Stmt := PySem.Challenge.pw_drawhouse_k14_no_expressions.main.body.getD i (.Pass ⟨0, 0, 0, 0⟩)
noncomputable def clsBody : Stmt → List Stmt
  | .ClassDef _ _ _ b _ _ _ _ _ _ _ => b
  | _ => []
noncomputable abbrev s_is_name : Stmt := top 18
noncomputable abbrev s_are_names : Stmt := top 19
noncomputable abbrev s_is_number : Stmt := top 25
noncomputable abbrev s_read_path : Stmt := top 26
noncomputable abbrev s_read_term : Stmt := top 27
noncomputable abbrev s_read_sign : Stmt := top 28
noncomputable abbrev s_read_expr : Stmt := top 29
noncomputable abbrev s_law_cell : Stmt := top 31
noncomputable abbrev s_law_sub : Stmt := top 32
noncomputable abbrev s_law_number : Stmt := top 33
noncomputable abbrev s_law_pick : Stmt := top 34
noncomputable abbrev s_law_name : Stmt := top 35
noncomputable abbrev s_law_term : Stmt := top 36
noncomputable abbrev s_law_terms : Stmt := top 37
noncomputable abbrev s_law_word : Stmt := top 38
noncomputable abbrev s_law_text : Stmt := top 39
noncomputable abbrev s_law_is_name : Stmt := top 40
noncomputable abbrev s_law_read_word : Stmt := top 41
noncomputable abbrev s_law_read : Stmt := top 42
noncomputable abbrev s_law_worded : Stmt := top 43
noncomputable abbrev s_law_signed : Stmt := top 44
noncomputable abbrev s_law_other : Stmt := top 45
noncomputable abbrev s_law_refused : Stmt := top 46
noncomputable abbrev s_law_taken : Stmt := top 47
noncomputable abbrev s_law : Stmt := top 48

section
variable {P : Program} {w : World} {K : PySem.W.Frag} {mg : Str → Option Value} {base : Heap}
noncomputable abbrev psCell : List Str := ["_law_script", "_law_k"]
theorem scCell : FnScope ["_law_script", "_law_k"] psCell (defScope s_law_cell) := ⟨rfl, rfl, rfl, by decide +kernel, rfl, by decide +kernel, by decide +kernel⟩
theorem ok_cell {f : Addr} {fd : FuncData} (F : Fun K "_law_cell" "_law_cell" s_law_cell f fd) (hlen : mg "len" = none) : FnOk P w K mg base CX0 1 f fd psCell (spCell K) := by
  refine F.ok scCell (fun vs H Q E h => ?_) (fun cdv A outer s H vs Q E hr h => ?_)
  · obtain ⟨a, ns, k, rfl, _⟩ := h
    rfl
  · obtain ⟨a, ns, k, rfl, hS, h0, q⟩ := h
    refine ⟨_, pss_cons (ps_if (pt_cmpR op_lt (pv 1) (pe_callB call_len_seq (by rfl) hlen PySem.boot_len (pa_cons (pv 0) pa_nil)) (nomark _))
        (pss_one (ps_ret (pe_op op_and (pe_ix ix_list (pv 0) (pv 1) (fun _ _ => rfl)) (pe_op op_sub (pe_op op_shl pe_int pe_int) pe_int)))) pss_nil)
      (pss_one (ps_ret pe_int)), ?_⟩
    refine ⟨_, rfl, _, rfl, a, _, rfl, .inl hS, _, _, rfl, rfl, _, rfl, ?_⟩
    rw [List.length_map]
    refine ite2d (fun hk => ?_) (fun hk => ?_)
    · have hk2 : ns[k.toNat]? = some (ns.getD k.toNat 0) := by
        rw [List.getD_eq_getElem?_getD, List.getElem?_eq_getElem (by omega)]
        rfl
      have hk3 : (ns.map V.int)[k.toNat]? = some (V.int (ns.getD k.toNat 0)) := by rw [List.getElem?_map, hk2]; rfl
      have hat : atI (ns.map V.int) k = some (V.int (ns.getD k.toNat 0)) := by
        have := atI_nat hk3
        rwa [show ((k.toNat : Nat) : Int) = k from by omega] at this
      refine ⟨_, rfl, _, rfl, a, _, _, _, rfl, rfl, hS, hat, _, _, rfl, rfl, ⟨by decide, by decide, by decide⟩, _, _, rfl, rfl, _, _, rfl, rfl, ?_⟩
      have e : cell ns k = Builtin.bitAnd (ns.getD k.toNat 0) (1 * 2 ^ (16000 : Int).toNat - 1) := if_pos hk
      have q' := q H (Same.refl H)
      rw [e] at q'
      exact q'
    · have e : cell ns k = 0 := if_neg hk
      have q' := q H (Same.refl H)
      rw [e] at q'
      exact q'
noncomputable abbrev psSub : List Str := ["_law_cell_here", "_law_j"]
theorem scSub : FnScope ["_law_cell_here", "_law_j"] psSub (defScope s_law_sub) := ⟨rfl, rfl, rfl, by decide +kernel, rfl, by decide +kernel, by decide +kernel⟩
theorem ok_sub {f : Addr} {fd : FuncData} (F : Fun K "_law_sub" "_law_sub" s_law_sub f fd) : FnOk P w K mg base CX0 1 f fd psSub spSub := by
  refine F.ok scSub (fun vs H Q E h => ?_) (fun cdv A outer s H vs Q E hr h => ?_)
  · obtain ⟨c, j, rfl, _⟩ := h
    rfl
  · obtain ⟨c, j, rfl, h0, h1, q⟩ := h
    refine ⟨_, pss_cons (ps_if (pw_and (pt_cmpR op_eq (pe_op op_mod (pv 0) pe_int) pe_int (nomark _)) (pw_and1 (pt_cmpR op_gt (pe_op op_shr (pv 0) (pe_op op_add (pe_op op_mul pe_int (pv 1)) pe_int)) pe_int (nomark _)))).pt
        (pss_one (ps_ret (pe_op op_or (pe_op op_shr (pv 0) (pe_op op_mul pe_int (pv 1))) pe_int))) pss_nil)
      (pss_one (ps_ret (pe_op op_mul (pe_op op_add (pe_op op_fdiv (pe_op op_fdiv (pv 0) pe_int) (pe_op op_add (pv 1) pe_int)) (pe_op op_mul pe_int (pv 1))) pe_int))), ?_⟩
    have q' := q H (Same.refl H)
    have tail : sub c j = subB c j → tRet (tOp (rI CMul fun i j => .int (i * j)) (tOp (rI0 fun i j => .int (i + j)) (tOp (rI CDiv fun i j => .int (i / j)) (tOp (rI CDiv fun i j => .int (i / j)) (tVar 0) (tC (.int 2))) (tOp (rI0 fun i j => .int (i + j)) (tVar 1) (tC (.int 1)))) (tOp (rI CMul fun i j => .int (i * j)) (tC (.int 104729)) (tVar 1))) (tC (.int 2)))
        { nx := fun _ H' => Q .non H', rt := Q } (start ["_law_cell_here", "_law_j"] [V.int c, V.int j]) H := fun e => by
      rw [e] at q'
      exact ⟨_, rfl, _, _, rfl, rfl, ⟨by decide, by decide⟩, _, rfl, _, _, rfl, rfl, _, _, rfl, rfl, ⟨by omega, by omega⟩, _, rfl, _, _, rfl, rfl, .inl ⟨by decide, by decide⟩, _, _, rfl, rfl, _, _, rfl, rfl, .inr ⟨by decide, by decide⟩, q'⟩
    refine ⟨_, rfl, _, _, rfl, rfl, (by show (0 : Int) < 2; decide), rfl, _, rfl, ?_⟩
    refine iteVi (fun hA => ?_) (fun hA => ?_)
    · refine ⟨_, rfl, _, rfl, _, _, rfl, rfl, .inl ⟨by decide, by decide⟩, _, _, rfl, rfl, _, _, rfl, rfl, (by show (0 : Int) ≤ 480 * j + 400; omega), _, _, rfl, rfl, _, rfl, ?_⟩
      refine ite2d (fun hB => ?_) (fun hB => ?_)
      · have e : sub c j = subA c j := if_pos ⟨hA, hB⟩
        rw [e] at q'
        exact ⟨_, rfl, _, rfl, _, _, rfl, rfl, .inl ⟨by decide, by decide⟩, _, _, rfl, rfl, (by show (0 : Int) ≤ 480 * j; omega), _, _, rfl, rfl, q'⟩
      · exact tail (if_neg fun z => hB z.2)
    · refine iteF ?_
      exact tail (if_neg fun z => hA z.1)
noncomputable abbrev psPick : List Str := ["_law_cell_here", "_law_k", "_law_many"]
theorem scPick : FnScope ["_law_cell_here", "_law_k", "_law_many", "_law_great", "_law_by", "_law_one"] psPick (defScope s_law_pick) := ⟨rfl, rfl, rfl, by decide +kernel, rfl, by decide +kernel, by decide +kernel⟩
theorem ok_pick {f : Addr} {fd : FuncData} (F : Fun K "_law_pick" "_law_pick" s_law_pick f fd) : FnOk P w K mg base CX0 1 f fd psPick spPick := by
  refine F.ok scPick (fun vs H Q E h => ?_) (fun cdv A outer s H vs Q E hr h => ?_)
  · obtain ⟨c, k, m, rfl, _⟩ := h
    rfl
  · obtain ⟨c, k, m, rfl, h0, h1, hm, q⟩ := h
    refine ⟨_, pss_cons (ps_if (pw_and (pt_cmpR op_eq (pe_op op_mod (pv 0) pe_int) pe_int (nomark _)) (pw_and1 (pt_cmpR op_gt (pe_op op_shr (pv 0) pe_int) pe_int (nomark _)))).pt
        (pss_one (ps_ret (pe_op op_mod (pe_op op_and (pe_op op_shr (pv 0) (pe_op op_add pe_int (pe_op op_mul pe_int (pv 1)))) pe_int) (pv 2)))) pss_nil)
      (pss_cons (ps_set (i := 3) scPick.nd rfl (Or.inl rfl) pe_int)
      (pss_cons (ps_set (i := 4) scPick.nd rfl (Or.inl rfl) (pe_ix ix_list (pe_lst (pa_cons pe_int (pa_cons pe_int (pa_cons pe_int (pa_cons pe_int (pa_cons pe_int (pa_cons pe_int (pa_cons pe_int (pa_cons pe_int pa_nil))))))))) (pe_op op_mod (pv 1) pe_int) (fun _ _ => rfl)))
      (pss_cons (ps_set (i := 4) scPick.nd rfl (Or.inl rfl) (pe_op op_mul (pv 4) (pe_ix ix_list (pe_lst (pa_cons pe_int (pa_cons pe_int (pa_cons pe_int (pa_cons pe_int (pa_cons pe_int pa_nil)))))) (pe_op op_fdiv (pv 1) pe_int) (fun _ _ => rfl))))
      (pss_cons (ps_set (i := 5) scPick.nd rfl (Or.inl rfl) (pe_op op_mod (pe_op op_mul (pe_op op_add (pe_op op_mod (pe_op op_fdiv (pv 0) pe_int) (pv 3)) pe_int) (pv 4)) (pv 3)))
      (pss_cons (ps_set (i := 5) scPick.nd rfl (Or.inl rfl) (pe_op op_mod (pe_op op_mul (pv 5) (pv 5)) pe_int))
      (pss_one (ps_ret (pe_op op_mod (pe_op op_fdiv (pe_op op_mod (pe_op op_mul (pe_op op_add (pe_op op_add (pv 5) (pv 1)) pe_int) (pe_op op_add (pe_op op_fdiv (pv 5) pe_int) pe_int)) pe_int) pe_int) (pv 2))))))))), ?_⟩
    obtain ⟨t1, t2, t3⟩ := tab8_at (k := k % 8) (by omega) (by omega)
    obtain ⟨u1, u2, u3⟩ := tab5_at (k := k / 8) (by omega) (by omega)
    have a8 : atI (tab8.map V.int) (k % 8) = some (V.int (tab8.getD (k % 8).toNat 0)) := by
      have := atI_nat (xs := tab8.map V.int) (j := (k % 8).toNat) (by rw [List.getElem?_map, t1]; rfl)
      rwa [show (((k % 8).toNat : Nat) : Int) = k % 8 from by omega] at this
    have a5 : atI (tab5.map V.int) (k / 8) = some (V.int (tab5.getD (k / 8).toNat 0)) := by
      have := atI_nat (xs := tab5.map V.int) (j := (k / 8).toNat) (by rw [List.getElem?_map, u1]; rfl)
      rwa [show (((k / 8).toNat : Nat) : Int) = k / 8 from by omega] at this
    have g1 := one1_ge c k
    have g2 := one1_lt c k
    have g3 := one2_ge c k
    have g4 := one2_lt c k
    have ms := mul_small t2 t3 u2 u3
    refine ⟨_, rfl, _, _, rfl, rfl, (by show (0 : Int) < 2; decide), rfl, _, rfl, ?_⟩
    refine iteVi (fun hA => ?_) (fun hA => ?_)
    · refine ⟨_, rfl, _, _, rfl, rfl, (by show (0 : Int) ≤ 400; decide), _, _, rfl, rfl, _, rfl, ?_⟩
      refine ite2d (fun hB => ?_) (fun hB => ?_)
      · have e : pick c k m = pickA c k m := if_pos ⟨hA, hB⟩
        have q' := q H (Same.refl H)
        rw [e] at q'
        exact ⟨_, rfl, _, rfl, _, _, rfl, rfl, .inl ⟨by decide, by decide⟩, _, _, rfl, rfl, _, _, rfl, rfl, (by show (0 : Int) ≤ 1 + 10 * k; omega), _, _, rfl, rfl, _, rfl, _, _, rfl, rfl, hm, q'⟩
      · have e : pick c k m = pickB c k m := if_neg fun z => hB z.2
        refine ⟨by show 8 ≤ sizeLine; decide, fun p hp => ?_⟩
        refine ⟨_, rfl, _, _, rfl, rfl, (by show (0 : Int) < 8; decide), p, tab8.map V.int, _, _, rfl, rfl, SqL.of upd_same, a8, ?_⟩
        refine ⟨_, rfl, (by show 5 ≤ sizeLine; decide), fun p2 hp2 => ?_⟩
        refine ⟨_, rfl, _, _, rfl, rfl, ⟨by decide, by decide⟩, p2, tab5.map V.int, _, _, rfl, rfl, SqL.of upd_same, a5, _, _, rfl, rfl, .inl ⟨by omega, by omega⟩, ?_⟩
        refine ⟨_, rfl, _, _, rfl, rfl, ⟨by decide, by decide⟩, _, rfl, _, _, rfl, rfl, (by show (0 : Int) < 2305843009213693951; decide), _, _, rfl, rfl, _, rfl, _, _, rfl, rfl, .inr ⟨by omega, by omega⟩, _, rfl, _, _, rfl, rfl, (by show (0 : Int) < 2305843009213693951; decide), ?_⟩
        refine ⟨_, rfl, _, rfl, _, _, rfl, rfl, .inl ⟨(by show -(2 ^ 64) < one1 c k; omega), (by show one1 c k < 2 ^ 64; omega)⟩, _, _, rfl, rfl, (by show (0 : Int) < 1000000000039; decide), ?_⟩
        refine ⟨_, rfl, _, rfl, _, _, rfl, rfl, _, _, rfl, rfl, _, rfl, _, _, rfl, rfl, ⟨by decide, by decide⟩, _, _, rfl, rfl, _, _, rfl, rfl, .inl ⟨(by show -(2 ^ 64) < one2 c k + k + 1; omega), (by show one2 c k + k + 1 < 2 ^ 64; omega)⟩, _, _, rfl, rfl, (by show (0 : Int) < 67280421310721; decide), _, _, rfl, rfl, ⟨by decide, by decide⟩, _, rfl, _, _, rfl, rfl, hm, ?_⟩
        rw [e] at q
        exact q _ ((Same.new hp).put hp2)
    · refine iteF ?_
      have e : pick c k m = pickB c k m := if_neg fun z => hA z.1
      refine ⟨by show 8 ≤ sizeLine; decide, fun p hp => ?_⟩
      refine ⟨_, rfl, _, _, rfl, rfl, (by show (0 : Int) < 8; decide), p, tab8.map V.int, _, _, rfl, rfl, SqL.of upd_same, a8, ?_⟩
      refine ⟨_, rfl, (by show 5 ≤ sizeLine; decide), fun p2 hp2 => ?_⟩
      refine ⟨_, rfl, _, _, rfl, rfl, ⟨by decide, by decide⟩, p2, tab5.map V.int, _, _, rfl, rfl, SqL.of upd_same, a5, _, _, rfl, rfl, .inl ⟨by omega, by omega⟩, ?_⟩
      refine ⟨_, rfl, _, _, rfl, rfl, ⟨by decide, by decide⟩, _, rfl, _, _, rfl, rfl, (by show (0 : Int) < 2305843009213693951; decide), _, _, rfl, rfl, _, rfl, _, _, rfl, rfl, .inr ⟨by omega, by omega⟩, _, rfl, _, _, rfl, rfl, (by show (0 : Int) < 2305843009213693951; decide), ?_⟩
      refine ⟨_, rfl, _, rfl, _, _, rfl, rfl, .inl ⟨(by show -(2 ^ 64) < one1 c k; omega), (by show one1 c k < 2 ^ 64; omega)⟩, _, _, rfl, rfl, (by show (0 : Int) < 1000000000039; decide), ?_⟩
      refine ⟨_, rfl, _, rfl, _, _, rfl, rfl, _, _, rfl, rfl, _, rfl, _, _, rfl, rfl, ⟨by decide, by decide⟩, _, _, rfl, rfl, _, _, rfl, rfl, .inl ⟨(by show -(2 ^ 64) < one2 c k + k + 1; omega), (by show one2 c k + k + 1 < 2 ^ 64; omega)⟩, _, _, rfl, rfl, (by show (0 : Int) < 67280421310721; decide), _, _, rfl, rfl, ⟨by decide, by decide⟩, _, rfl, _, _, rfl, rfl, hm, ?_⟩
      rw [e] at q
      exact q _ ((Same.new hp).put hp2)
noncomputable abbrev psName : List Str := ["_law_cell_here"]
theorem scName : FnScope ["_law_cell_here", "_law_letters"] psName (defScope s_law_name) := ⟨rfl, rfl, rfl, by decide +kernel, rfl, by decide +kernel, by decide +kernel⟩
theorem ok_name {f fp : Addr} {fd fdp : FuncData} (F : Fun K "_law_name" "_law_name" s_law_name f fd) (A1 : FnAt K mg "_law_pick" s_law_pick psPick fp fdp) (hrg : mg "range" = none) : FnOk P w K mg base CX0 2 f fd psName spName := by
  have G1 : FnOk P w K mg base CX0 1 fp fdp psPick spPick := ok_pick A1.F
  refine F.ok scName (fun vs H Q E h => ?_) (fun cdv A outer s H vs Q E hr h => ?_)
  · obtain ⟨c, rfl, _⟩ := h
    rfl
  · obtain ⟨c, rfl, q⟩ := h
    have hr1 : Room 1 _ := hr
    refine ⟨_, pss_cons (ps_set (i := 1) scName.nd rfl (Or.inr rfl) pe_str)
      (pss_one (ps_ret (pe_bm PySem.F.plainAttrs_str PySem.F.slot_str_join PySem.F.type_str_join mt_join pe_str
        (pa_cons (pe_comp (N := ["_law_j", "_law_letters", "_law_cell_here"]) [none, some 1, some 0] rfl (by kernel_rfl)
          (pi_range1 (by rfl) hrg (pa_cons (pe_op op_add pe_int (pcall A1 G1 hr1 (pa_cons (pv 0) (pa_cons pe_int (pa_cons pe_int pa_nil))))) pa_nil))
          (fun cl C fp s H => pg_name (i := 0) (by decide +kernel : (["_law_j", "_law_letters", "_law_cell_here"] : List Str).Nodup) rfl (Or.inl rfl)) (fun cl C fp s H => pf_nil)
          (fun cl C fp s H => pe_ix ix_str (pv 1) (pcall A1 G1 hr1 (pa_cons (pv 2) (pa_cons (pe_op op_add pe_int (pv 0)) (pa_cons pe_int pa_nil)))) (fun _ _ => rfl))) pa_nil)))), ?_⟩
    refine ⟨rfl, ?_⟩
    refine ⟨_, rfl, c, 30, 8, rfl, by decide, by decide, by decide, fun H1 s1 => ?_⟩
    have b1 := pick_ge c 30 (m := 8) (by decide)
    have b2 := pick_lt c 30 (m := 8) (by decide)
    refine ⟨_, _, rfl, rfl, _, rfl, by omega, by omega, ?_⟩
    refine comp_range (fun j => V.str ⟨#[letter c j]⟩) (Nat.le_trans (show (1 + pick c 30 8).toNat ≤ 8 by omega) (by decide)) (fun i H' Q' hi sm k' => ?_) (fun τ H Q Q' hh h => hh _ _ h) (fun H' sm => ?_)
    · refine ⟨rfl, ?_⟩
      have l1 := pick_ge c (31 + (0 + (i : Int))) (m := 26) (by decide)
      have l2 := pick_lt c (31 + (0 + (i : Int))) (m := 26) (by decide)
      have li : i < (1 + pick c 30 8).toNat := hi
      refine ⟨_, rfl, _, rfl, _, rfl, _, _, rfl, rfl, c, 31 + (0 + (i : Int)), 26, rfl, by omega, by omega, by decide, fun H2 s2 => ?_⟩
      have lat : atI letters.cps.toList (pick c (31 + (0 + (i : Int))) 26) = some (97 + (pick c (31 + (0 + (i : Int))) 26).toNat) := by
        have := atI_nat (letters_at l1 l2)
        rwa [show (((pick c (31 + (0 + (i : Int))) 26).toNat : Nat) : Int) = pick c (31 + (0 + (i : Int))) 26 from by omega] at this
      refine ⟨letters, _, _, rfl, rfl, by decide +kernel, lat, ?_⟩
      have e : V.str ⟨#[97 + (pick c (31 + (0 + (i : Int))) 26).toNat]⟩ = V.str ⟨#[letter c i]⟩ := by
        unfold letter
        rw [show (0 + (i : Int)) = (i : Int) from by omega]
      rw [e]
      exact k' H2 s2
    · intro p hp
      refine ⟨_, p, (List.range (1 + pick c 30 8).toNat).map fun (j : Nat) => (⟨#[letter c (j : Int)]⟩ : Str), rfl, rfl, .inl (SqL.of ?_), ?_, ?_⟩
      · rw [List.map_map]
        exact upd_same
      · have h1 : ∀ y ∈ (List.range (1 + pick c 30 8).toNat).map fun (j : Nat) => (⟨#[letter c (j : Int)]⟩ : Str), y.length ≤ 1 := fun y hy => by
          obtain ⟨j, _, rfl⟩ := List.mem_map.mp hy
          exact Nat.le_refl 1
        have h2 := sum_le h1
        rw [List.length_map, List.length_range] at h2
        have h3 : (("" : Str)).length = 0 := by decide +kernel
        rw [List.length_map, List.length_range, h3]
        omega
      · rw [empty_eq, join_letters]
        exact q _ ((s1.trans sm).put hp)
end


section
variable {P : Program} {w : World} {K : PySem.W.Frag} {mg : Str → Option Value} {base : Heap}
noncomputable abbrev psNumber : List Str := ["_law_cell_here", "_law_far"]
theorem scNumber : FnScope ["_law_cell_here", "_law_far"] psNumber (defScope s_law_number) := ⟨rfl, rfl, rfl, by decide +kernel, rfl, by decide +kernel, by decide +kernel⟩
theorem ok_number {f : Addr} {fd : FuncData} (F : Fun K "_law_number" "_law_number" s_law_number f fd) : FnOk P w K mg base CX0 1 f fd psNumber spNumber := by
  refine F.ok scNumber (fun vs H Q E h => ?_) (fun cdv A outer s H vs Q E hr h => ?_)
  · obtain ⟨c, far, rfl, _⟩ := h
    rfl
  · obtain ⟨c, far, rfl, h0, q⟩ := h
    refine ⟨_, pss_cons (ps_if (pw_and (pt_cmpR op_eq (pe_op op_mod (pv 0) pe_int) pe_int (nomark _)) (pw_and1 (pt_cmpR op_gt (pe_op op_shr (pv 0) pe_int) pe_int (nomark _)))).pt
        (pss_one (ps_ret (pe_op op_mod (pe_op op_shr (pv 0) pe_int) (pv 1)))) pss_nil)
      (pss_one (ps_ret (pe_op op_mod (pe_op op_fdiv (pv 0) pe_int) (pv 1)))), ?_⟩
    have q' := q H (Same.refl H)
    refine ⟨_, rfl, _, _, rfl, rfl, (by show (0 : Int) < 2; decide), rfl, _, rfl, ?_⟩
    refine iteVi (fun hA => ?_) (fun hA => ?_)
    · refine ⟨_, rfl, _, _, rfl, rfl, (by show (0 : Int) ≤ 400; decide), _, _, rfl, rfl, _, rfl, ?_⟩
      refine ite2d (fun hB => ?_) (fun hB => ?_)
      · have e : number c far = c / 2 ^ (400 : Int).toNat % far := if_pos ⟨hA, hB⟩
        rw [e] at q'
        exact ⟨_, rfl, _, _, rfl, rfl, (by show (0 : Int) ≤ 400; decide), _, rfl, _, _, rfl, rfl, h0, q'⟩
      · have e : number c far = c / 2 % far := if_neg fun z => hB z.2
        rw [e] at q'
        exact ⟨_, rfl, _, _, rfl, rfl, ⟨by decide, by decide⟩, _, rfl, _, _, rfl, rfl, h0, q'⟩
    · refine iteF ?_
      have e : number c far = c / 2 % far := if_neg fun z => hA z.1
      rw [e] at q'
      exact ⟨_, rfl, _, _, rfl, rfl, ⟨by decide, by decide⟩, _, rfl, _, _, rfl, rfl, h0, q'⟩
end

noncomputable abbrev psPIsName : List Str := ["thing"]
theorem scPIsName : FnScope ["thing"] psPIsName (defScope s_is_name) := ⟨rfl, rfl, rfl, by decide +kernel, rfl, by decide +kernel, by decide +kernel⟩
noncomputable abbrev psPAreNames : List Str := ["text", "most"]
theorem scPAreNames : FnScope ["text", "most", "names"] psPAreNames (defScope s_are_names) := ⟨rfl, rfl, rfl, by decide +kernel, rfl, by decide +kernel, by decide +kernel⟩
noncomputable abbrev psPIsNumber : List Str := ["word"]
theorem scPIsNumber : FnScope ["word"] psPIsNumber (defScope s_is_number) := ⟨rfl, rfl, rfl, by decide +kernel, rfl, by decide +kernel, by decide +kernel⟩
noncomputable abbrev psPReadPath : List Str := ["word"]
theorem scPReadPath : FnScope ["word"] psPReadPath (defScope s_read_path) := ⟨rfl, rfl, rfl, by decide +kernel, rfl, by decide +kernel, by decide +kernel⟩
noncomputable abbrev psPReadTerm : List Str := ["sign", "word"]
theorem scPReadTerm : FnScope ["sign", "word"] psPReadTerm (defScope s_read_term) := ⟨rfl, rfl, rfl, by decide +kernel, rfl, by decide +kernel, by decide +kernel⟩
noncomputable abbrev psPReadSign : List Str := ["word"]
theorem scPReadSign : FnScope ["word"] psPReadSign (defScope s_read_sign) := ⟨rfl, rfl, rfl, by decide +kernel, rfl, by decide +kernel, by decide +kernel⟩
noncomputable abbrev psPReadExpr : List Str := ["text"]
theorem scPReadExpr : FnScope ["text", "words", "terms", "at"] psPReadExpr (defScope s_read_expr) := ⟨rfl, rfl, rfl, by decide +kernel, rfl, by decide +kernel, by decide +kernel⟩
noncomputable abbrev psTerm : List Str := ["_law_cell_here", "_law_first"]
theorem scTerm : FnScope ["_law_cell_here", "_law_first", "_law_sign", "_law_way", "_law_far", "_law_names"] psTerm (defScope s_law_term) := ⟨rfl, rfl, rfl, by decide +kernel, rfl, by decide +kernel, by decide +kernel⟩
noncomputable abbrev psTerms : List Str := ["_law_cell_here"]
theorem scTerms : FnScope ["_law_cell_here"] psTerms (defScope s_law_terms) := ⟨rfl, rfl, rfl, by decide +kernel, rfl, by decide +kernel, by decide +kernel⟩
noncomputable abbrev psWord : List Str := ["_law_term_here"]
theorem scWord : FnScope ["_law_term_here", "_law_sign", "_law_sort", "_law_thing"] psWord (defScope s_law_word) := ⟨rfl, rfl, rfl, by decide +kernel, rfl, by decide +kernel, by decide +kernel⟩
noncomputable abbrev psText : List Str := ["_law_terms_here"]
theorem scText : FnScope ["_law_terms_here", "_law_text_here", "_law_term_here"] psText (defScope s_law_text) := ⟨rfl, rfl, rfl, by decide +kernel, rfl, by decide +kernel, by decide +kernel⟩
noncomputable abbrev psIsName : List Str := ["_law_text_here"]
theorem scIsName : FnScope ["_law_text_here", "_law_sign"] psIsName (defScope s_law_is_name) := ⟨rfl, rfl, rfl, by decide +kernel, rfl, by decide +kernel, by decide +kernel⟩
noncomputable abbrev psReadWord : List Str := ["_law_word_here", "_law_sign"]
theorem scReadWord : FnScope ["_law_word_here", "_law_sign", "_law_figures", "_law_sort", "_law_names"] psReadWord (defScope s_law_read_word) := ⟨rfl, rfl, rfl, by decide +kernel, rfl, by decide +kernel, by decide +kernel⟩
noncomputable abbrev psRead : List Str := ["_law_text_here"]
theorem scRead : FnScope ["_law_text_here", "_law_words", "_law_terms_here", "_law_k", "_law_term_here"] psRead (defScope s_law_read) := ⟨rfl, rfl, rfl, by decide +kernel, rfl, by decide +kernel, by decide +kernel⟩
noncomputable abbrev psWorded : List Str := ["_law_words", "_law_cell_here"]
theorem scWorded : FnScope ["_law_words", "_law_cell_here", "_law_at", "_law_way", "_law_some", "_law_word_here"] psWorded (defScope s_law_worded) := ⟨rfl, rfl, rfl, by decide +kernel, rfl, by decide +kernel, by decide +kernel⟩
noncomputable abbrev psSigned : List Str := ["_law_text_here", "_law_cell_here"]
theorem scSigned : FnScope ["_law_text_here", "_law_cell_here", "_law_signs", "_law_at", "_law_sign", "_law_way"] psSigned (defScope s_law_signed) := ⟨rfl, rfl, rfl, by decide +kernel, rfl, by decide +kernel, by decide +kernel⟩
noncomputable abbrev psOther : List Str := ["_law_e"]
theorem scOther : FnScope ["_law_e", "_law_some"] psOther (defScope s_law_other) := ⟨rfl, rfl, rfl, by decide +kernel, rfl, by decide +kernel, by decide +kernel⟩
noncomputable abbrev psRefused : List Str := ["_law_thing"]
theorem scRefused : FnScope ["_law_thing", "_law_e"] psRefused (defScope s_law_refused) := ⟨rfl, rfl, rfl, by decide +kernel, rfl, by decide +kernel, by decide +kernel⟩
noncomputable abbrev psTaken : List Str := ["_law_text_here"]
theorem scTaken : FnScope ["_law_text_here", "_law_due", "_law_found"] psTaken (defScope s_law_taken) := ⟨rfl, rfl, rfl, by decide +kernel, rfl, by decide +kernel, by decide +kernel⟩
noncomputable abbrev psLaw : List Str := ["_law_script"]
theorem scLaw : FnScope ["_law_script", "_law_k", "_law_cell_here", "_law_text_here", "_law_words", "_law_one", "_law_odd"] psLaw (defScope s_law) := ⟨rfl, rfl, rfl, by decide +kernel, rfl, by decide +kernel, by decide +kernel⟩
section
variable {P : Program} {w : World} {K : PySem.W.Frag} {mg : Str → Option Value} {base : Heap}
noncomputable def spNum : Sp := fun vs H Q _ => ∃ z : Str, vs = [.str z] ∧ z.length ≤ 10000 ∧ Pur (.bl (numB z)) H Q
noncomputable def spTerm : Sp := fun vs H Q _ => ∃ (c : Int) (b : Bool), vs = [.int c, .bl b] ∧ ∀ v H' t, Same H H' → GoodT t → (b = true → t.sg = 1) → TmAt H' v t → Q v H'
noncomputable def spTerms : Sp := fun vs H Q _ => ∃ c : Int, vs = [.int c] ∧ ∀ l H' ts, Same H H' → GoodTs ts → TmsAt H' l ts → Q (.ref l) H'
noncomputable def spWord : Sp := fun vs H Q _ => ∃ (v : V) (t : Trm), vs = [v] ∧ TmAt H v t ∧ GoodT t ∧ Pur (.str (wordOf t.th)) H Q
noncomputable def spText : Sp := fun vs H Q _ => ∃ (l : Addr) (ts : List Trm), vs = [.ref l] ∧ TmsAt H l ts ∧ GoodTs ts ∧ Pur (.str (textOf ts)) H Q
noncomputable def spLaw (K : PySem.W.Frag) : Sp := fun vs H Q _ => ∃ (a : Addr) (ns : List Int), vs = [.ref a] ∧ SqL K H a (ns.map V.int) ∧ ns.length ≤ 63 ∧ ∀ H', Q (.bl true) H'
theorem atI_mem {α : Type} {xs : List α} {c k : Int} (h : 0 < xs.length) : ∃ v, atI xs (pick c k (xs.length : Int)) = some v ∧ v ∈ xs := by
  have h1 := pick_ge c k (m := (xs.length : Int)) (by omega)
  have h2 := pick_lt c k (m := (xs.length : Int)) (by omega)
  have hl : (pick c k (xs.length : Int)).toNat < xs.length := by omega
  refine ⟨xs[(pick c k (xs.length : Int)).toNat], ?_, List.getElem_mem hl⟩
  have := atI_nat (List.getElem?_eq_getElem hl)
  rwa [show (((pick c k (xs.length : Int)).toNat : Nat) : Int) = pick c k (xs.length : Int) from by omega] at this
theorem number_ge (c : Int) {far : Int} (h : 0 < far) : 0 ≤ number c far := by unfold number; split <;> exact Int.emod_nonneg _ (by omega)
theorem number_lt (c : Int) {far : Int} (h : 0 < far) : number c far < far := by unfold number; split <;> exact Int.emod_lt_of_pos _ h
theorem small_two {n : Nat} (h : n ≤ 11) : Builtin.Range.small 1 (n : Int) 2 = true := by
  have k : ∀ m : Fin 12, Builtin.Range.small 1 ((m.val : Nat) : Int) 2 = true := by decide +kernel
  exact k ⟨n, by omega⟩
theorem blanklen0 : (((" " : Str)).length == 0) = false := by decide +kernel
theorem big1000 : 1000 ≤ sizeLine := by decide
theorem inter_cons (c : Nat) (x : List Nat) {W : List (List Nat)} (h : W ≠ []) : inter c (x :: W) = x ++ c :: inter c W := by
  cases W with
  | nil => exact absurd rfl h
  | cons y r => rfl
theorem cut_from (xs : List V) (k : Nat) : cutV xs (some (k : Int)) none = xs.drop k := by
  unfold cutV
  rw [HT.sIx_none, HT.sIx_nat]
  rw [List.take_of_length_le (by rw [List.length_drop]; exact Nat.le_refl _)]
  by_cases h : k ≤ xs.length
  · rw [Nat.min_eq_left h]
  · rw [Nat.min_eq_right (by omega), List.drop_length, List.drop_eq_nil_of_le (by omega)]
theorem cut_to (xs : List V) (k : Nat) : cutV xs none (some (k : Int)) = xs.take k := by
  unfold cutV
  rw [HT.sIx_none, HT.sIx_nat, List.drop_zero, Nat.sub_zero]
  by_cases h : k ≤ xs.length
  · rw [Nat.min_eq_left h]
  · rw [Nat.min_eq_right (by omega), List.take_length, List.take_of_length_le (by omega)]
theorem split_blank {x y : Str} (h : y ∈ Txt.split x (" " : Str)) : y.length ≤ x.length := by rw [blank_eq] at h; exact split_part h
noncomputable def Xx (D : Addr) (H : Hp) (E : XK) : Prop := ∀ x H', Same H H' → H x = none → H' x = some (ExO false x D none) → E (.ref x) none H'
theorem Xx.on {D : Addr} {H H1 : Hp} {E : XK} (h : Xx D H E) (s : Same H H1) : Xx D H1 E := fun x H' s' hx e => h x H' (s.trans s') (s.free hx) e
theorem Xx.go {D x : Addr} {H : Hp} {E : XK} (h : Xx D H E) (hx : H x = none) : E (.ref x) none (upd (upd H x (ExO true x D none)) x (ExO false x D none)) :=
  h x _ (fun b o e => by rw [upd_ne (ne_of_none e hx), upd_ne (ne_of_none e hx)]; exact e) hx upd_same
noncomputable def spIsN6 : Sp := fun vs H Q _ => ∃ z : Str, vs = [.str z] ∧ z.length ≤ 6000 ∧ Pur (.bl (nmB z)) H Q
noncomputable def spAre6 : Sp := fun vs H Q _ => ∃ (z : Str) (m : Nat), vs = [.str z, .int m] ∧ z.length ≤ 6000 ∧ Pur (.bl (pthB m z)) H Q
noncomputable def spPath6 (C : Nat → Addr) : Sp := fun vs H Q E => ∃ z : Str, vs = [.str z] ∧ z.length ≤ 6000 ∧ (∀ ys, GoodN ys → z = dotted ys → ∀ p H', Same H H' → H' p = some (.tup (ys.map V.str)) → Q (.ref p) H') ∧ (pthB 4 z = false → Xx (C 21) H E)
noncomputable def spReadT6 (C : Nat → Addr) : Sp := fun vs H Q E => ∃ (sg : Int) (z : Str), vs = [.int sg, .str z] ∧ z.length ≤ 6000 ∧ (∀ th, GoodTh th → z = wordOf th → ∀ v H', Same H H' → TmAt H' v ⟨sg, th⟩ → Q v H') ∧ (¬ RdW z → Xx (C 21) H E)
noncomputable def spSign6 (C : Nat → Addr) : Sp := fun vs H Q E => ∃ z : Str, vs = [.str z] ∧ (∀ s : Int, (s = 1 ∨ s = -1) → z = sgw s → Pur (.int s) H Q) ∧ ((¬ ∃ s : Int, (s = 1 ∨ s = -1) ∧ z = sgw s) → Xx (C 21) H E)
theorem inter_len6 (c : Nat) : ∀ {W : List (List Nat)}, W ≠ [] → (inter c W).length + 1 = (W.map List.length).sum + W.length
  | [], h => absurd rfl h
  | [x], _ => by simp [inter]
  | x :: y :: r, _ => by
    have ih := inter_len6 c (W := y :: r) (by simp)
    rw [inter_cons c x (by simp), List.length_append, List.length_cons, List.map_cons, List.sum_cons, List.length_cons (as := y :: r)]
    omega
theorem txt_join (ys : List Str) : Txt.join (" " : Str) ys = Str.join ⟨#[32]⟩ ys := by
  rw [blank_eq]
  exact StrLaws.glued_eq_join _ ys
theorem join_len {ys : List Str} (h : ys ≠ []) : (Txt.join (" " : Str) ys).length + 1 = (ys.map (·.length)).sum + ys.length := by
  rw [txt_join, strLen, join_codes, inter_len6 32 (by simpa using h), List.map_map, List.length_map]
  have e : ys.map (List.length ∘ fun x : Str => x.cps.toList) = ys.map (·.length) := List.map_congr_left fun y _ => (strLen y).symm
  rw [e]
theorem not_rdW0 : ¬ RdW "" := not_rdP (by decide +kernel) (by decide +kernel) (by decide +kernel)
noncomputable def wAt (ws : List Str) (i : Nat) : Str := (ws[i]?).getD ""
theorem wAt_mem {ws : List Str} {i : Nat} (h : i < ws.length) : wAt ws i ∈ ws := by unfold wAt; rw [List.getElem?_eq_getElem h]; exact List.getElem_mem h
theorem wAt_ix {ws : List Str} {i : Nat} (h : i < ws.length) : atI (ws.map V.str) ((i : Nat) : Int) = some (V.str (wAt ws i)) := atI_nat (by rw [List.getElem?_map, List.getElem?_eq_getElem h]; unfold wAt; rw [List.getElem?_eq_getElem h]; rfl)
theorem dec_str {a b : Str} : decide (V.str a = V.str b) = decide (a = b) := by
  by_cases h : a = b
  · rw [decide_eq_true h, decide_eq_true (congrArg V.str h)]
  · rw [decide_eq_false h, decide_eq_false fun k => h (V.str.inj k)]
theorem dec_int {n m : Nat} : decide (V.int (n : Int) = V.int (m : Int)) = decide (n = m) := by
  by_cases h : n = m
  · rw [decide_eq_true h, decide_eq_true (by rw [h])]
  · rw [decide_eq_false h, decide_eq_false fun k => h (by have := V.int.inj k; omega)]
noncomputable def NoTx (K : PySem.W.Frag) (H : Hp) (v : V) : Prop := ∃ t, TyOf K H v t ∧ PySem.W.kitOne K t (.type "str") = some false
theorem ktx {K : PySem.W.Frag} {n : String} (h0 : (Value.type n == Value.type "str") = false) (h2 : (fastBuiltinMro n).map (·.contains (Value.type "str")) = some false) : PySem.W.kitOne K (.type n) (.type "str") = some false := kit_ty h0 (by decide +kernel) h2
theorem notx_non {K : PySem.W.Frag} {H : Hp} : NoTx K H .non := ⟨_, .non, ktx (by decide +kernel) (by decide +kernel)⟩
theorem notx_int {K : PySem.W.Frag} {H : Hp} {i : Int} : NoTx K H (.int i) := ⟨_, .int i, ktx (by decide +kernel) (by decide +kernel)⟩
theorem notx_bl {K : PySem.W.Frag} {H : Hp} {b : Bool} : NoTx K H (.bl b) := ⟨_, .bl b, ktx (by decide +kernel) (by decide +kernel)⟩
theorem notx_lst {K : PySem.W.Frag} {H : Hp} {a : Addr} {xs : List V} (e : H a = some (.lst xs)) : NoTx K H (.ref a) := ⟨_, .lst e, ktx (by decide +kernel) (by decide +kernel)⟩
theorem notx_tup {K : PySem.W.Frag} {H : Hp} {a : Addr} {xs : List V} (e : H a = some (.tup xs)) : NoTx K H (.ref a) := ⟨_, .tup e, ktx (by decide +kernel) (by decide +kernel)⟩
theorem notx_dK {K : PySem.W.Frag} {H : Hp} {a : Addr} {kvs : List (Key × V)} (e : H a = some (.dK kvs)) : NoTx K H (.ref a) := ⟨_, .dK e, ktx (by decide +kernel) (by decide +kernel)⟩
theorem call_instXK {X : Cx} {K : PySem.W.Frag} (h : X.K = K) : CallR X (.builtin "isinstance") (rInstX K) := by subst h; exact call_instX
noncomputable def spLW6 : Sp := fun vs H Q _ => ∃ (z : Str) (sg : Int), vs = [.str z, .int sg] ∧ z.length ≤ 6000 ∧ (∀ th, GoodTh th → z = wordOf th → ∀ v H', Same H H' → TmAt H' v ⟨sg, th⟩ → Q v H') ∧ (¬ RdW z → Pur .non H Q)
theorem filt_all {p : Nat → Bool} {xs : List Nat} (h : (xs.filter p).length = xs.length) : xs.all p = true := List.all_eq_true.mpr (List.length_filter_eq_length_iff.mp h)
theorem filt_not {p : Nat → Bool} {xs : List Nat} (h : (xs.filter p).length ≠ xs.length) : xs.all p = false := by
  cases e : xs.all p with
  | false => rfl
  | true => exact absurd (List.length_filter_eq_length_iff.mpr (List.all_eq_true.mp e)) h
theorem small_two0 {n : Nat} (h : n ≤ 11) : Builtin.Range.small 0 (n : Int) 2 = true := by
  have k : ∀ m : Fin 12, Builtin.Range.small 0 ((m.val : Nat) : Int) 2 = true := by decide +kernel
  exact k ⟨n, by omega⟩
noncomputable def spTaken6 : Sp := fun vs H Q _ => ∃ z : Str, vs = [.str z] ∧ z.length ≤ 6000 ∧ Pur (.bl true) H Q
noncomputable def tot (ws : List Str) : Nat := (ws.map (·.length)).sum + ws.length
theorem tot_app (a b : List Str) : tot (a ++ b) = tot a + tot b := by unfold tot; rw [List.map_append, List.sum_append, List.length_append]; omega
theorem tot_cut (ws : List Str) (n : Nat) : tot (ws.take n) + tot (ws.drop n) = tot ws := by rw [← tot_app, List.take_append_drop]
theorem tot_drop (ws : List Str) (n : Nat) : tot (ws.drop (n + 1)) ≤ tot (ws.drop n) := by
  have := tot_cut (ws.drop n) 1
  rw [List.drop_drop] at this
  rw [Nat.add_comm] at this
  omega
theorem tot_one (w : Str) : tot [w] = w.length + 1 := by unfold tot; simp
theorem tot_mem {ws : List Str} {w : Str} (h : w ∈ ws) : w.length < tot ws := by
  induction ws with
  | nil => cases h
  | cons a r ih =>
    have e : tot (a :: r) = a.length + 1 + tot r := by rw [← tot_one a, ← tot_app]; rfl
    rcases List.mem_cons.mp h with rfl | k
    · omega
    · have := ih k; omega
theorem tot_len (ws : List Str) : ws.length ≤ tot ws := by unfold tot; omega
theorem sl_to {y : Str} {j : Int} (h0 : 0 ≤ j) (h1 : j ≤ y.length) : (Txt.slice y none (some j)).length ≤ j.toNat := by
  rw [eq_of_beq (slice_closes_toL h0 h1), strLen]
  show ((y.cps.toList.drop (0 : Int).toNat).take (j - 0).toNat).toArray.toList.length ≤ _
  rw [List.toList_toArray, List.length_take]
  omega
theorem sl_from {y : Str} {i : Int} (h0 : 0 ≤ i) (h1 : i ≤ y.length) : (Txt.slice y (some i) none).length ≤ y.length - i.toNat := by
  rw [eq_of_beq (slice_closes_fromL h0 h1 rfl), strLen]
  show ((y.cps.toList.drop i.toNat).take ((y.length : Int) - i).toNat).toArray.toList.length ≤ _
  rw [List.toList_toArray, List.length_take]
  omega
theorem ex_of {X : Cx} {b : List Stmt} {t : TS} {p : TS → Prop} (q : QSs X b t) (h : p t) : ∃ W, PSs X b W ∧ p W := ⟨t, q.h, h⟩
theorem atI_mem6 {xs : List V} {k : Int} (h0 : 0 ≤ k) (h1 : k < xs.length) : ∃ v, atI xs k = some v ∧ v ∈ xs := by
  obtain ⟨n, rfl⟩ := Int.eq_ofNat_of_zero_le h0
  have hn : n < xs.length := by omega
  exact ⟨_, atI_nat (List.getElem?_eq_getElem hn), List.getElem_mem hn⟩
theorem cuts (ws : List Str) (k : Nat) : cutV (ws.map V.str) none (some (k : Int)) = (ws.take k).map V.str := by rw [cut_to, List.map_take]
theorem cutd (ws : List Str) (k : Nat) : cutV (ws.map V.str) (some (k : Int)) none = (ws.drop k).map V.str := by rw [cut_from, List.map_drop]
theorem tot_split {z : Str} : tot (Txt.split z (" " : Str)) = z.length + 1 := by
  have hn : Txt.split z (" " : Str) ≠ [] := by rw [blank_eq]; exact split_ne _ _
  have := join_len hn
  rw [txt_join, blank_eq, StrLaws.join_split] at this
  unfold tot
  rw [blank_eq]; omega
theorem join_le {ys : List Str} : (Txt.join (" " : Str) ys).length ≤ tot ys := by
  by_cases h : ys = []
  · subst h; decide +kernel
  · have := join_len h; unfold tot; omega
section
variable {K : PySem.W.Frag} {HE C D : Addr}
theorem cl_at {nm q : Str} {N : Addr} {bs bm : List Value} {sn : List Str} {sub : List Value} {ab : Bool} {col : Option Bool} {dd : Option Addr} {k0 k1 k2 k3 k5 : Option Value} (l : K.lookup C = some (excClassObj nm q C N bs bm true sn sub ab col dd k0 k1 k2 k3 k5 "ValueError.__new__")) : ClAt K C bm := ⟨_, _, _, _, _, _, _, _, _, _, _, _, _, _, l⟩
end
section
variable {K : PySem.W.Frag} {HE C D : Addr}
theorem cl_kit {bm bm' : List Value} (l : ClAt K C bm) (l' : ClAt K D bm') : PySem.W.kitOne K (.ref C) (.ref D) = some ((Value.ref C :: bm).contains (.ref D)) := by
  obtain ⟨_, _, _, _, _, _, _, _, _, _, _, _, _, _, l⟩ := l
  obtain ⟨_, _, _, _, _, _, _, _, _, _, _, _, _, _, l'⟩ := l'
  exact kit_ref l l'
end
section
variable {K : PySem.W.Frag} {HE C D : Addr}
theorem cl_self {bm : List Value} (l : ClAt K C bm) : PySem.W.kitOne K (.ref C) (.ref C) = some true := by rw [cl_kit l l]; simp
end
section
variable {K : PySem.W.Frag} {HE C D : Addr}
theorem cl_no (l : ClAt K C (.ref HE :: veMro)) (l' : ClAt K D (.ref HE :: veMro)) (h0 : D ≠ HE) (h1 : D ≠ C) : PySem.W.kitOne K (.ref C) (.ref D) = some false := by
  rw [cl_kit l l', List.contains_cons, List.contains_cons, ve_ref]
  have e0 : (Value.ref D == Value.ref HE) = false := beq_eq_false_iff_ne.mpr fun z => h0 (Value.ref.inj z)
  have e1 : (Value.ref D == Value.ref C) = false := beq_eq_false_iff_ne.mpr fun z => h1 (Value.ref.inj z)
  rw [e0, e1]
  rfl
end
section
variable {K : PySem.W.Frag} {HE C D : Addr}
theorem cl_ve (l : ClAt K C (.ref HE :: veMro)) : PySem.W.kitOne K (.ref C) (.type "ValueError") = some true := by
  obtain ⟨_, _, _, _, _, _, _, _, _, _, _, _, _, _, l⟩ := l
  rw [kit_ve (by decide +kernel) l]
  simp
end
section
variable {K : PySem.W.Frag} {HE C D : Addr}
theorem cl_sub (l : ClAt K C (.ref HE :: veMro)) : Sub K C HE := by
  obtain ⟨_, _, _, _, _, _, _, _, _, _, _, _, _, _, l⟩ := l
  exact ⟨_, _, _, _, _, _, _, _, _, _, _, _, _, _, _, _, _, l, by simp⟩
end
section
variable {K : PySem.W.Frag} {HE C D : Addr}
theorem cl_cls (l : ClAt K C (.ref HE :: veMro)) (ga : PySem.W.findIn K (.ref C) "__getattribute__" = some (some (.builtin "BaseException.__getattribute__"))) (nga : PySem.W.findIn K (.ref C) "__getattr__" = some none)
    (sa : PySem.W.findIn K (.ref C) "__setattr__" = some (some (.builtin "object.__setattr__"))) (cl : PySem.W.findIn K (.ref C) "__class__" = some (some (.builtin "object.__class__")))
    (cg : PySem.W.specialIn K (.builtin "object.__class__") "__get__" = some (some (.builtin "getset_descriptor.__get__"))) (ct : PySem.W.takesIn K (.builtin "object.__class__") = some true) : ClsX K C := by
  obtain ⟨_, _, _, _, _, _, _, _, _, _, _, _, _, _, l⟩ := l
  exact clsX_of l rfl rfl ga nga sa cl cg ct
end
theorem nd_ne {cs : List Addr} (h : cs.Nodup) {i j : Nat} {a b : Addr} (ha : cs[i]? = some a) (hb : cs[j]? = some b) (hij : i ≠ j) : a ≠ b := fun e => by
  subst e
  exact hij ((List.getElem?_inj (List.getElem?_eq_some_iff.mp ha).1 h).mp (ha.trans hb.symm))
section
variable {K : PySem.W.Frag} {HE C D : Addr}
theorem cl_he (l : ClAt K C (.ref HE :: veMro)) {nm q : Str} {N : Addr} {bs : List Value} {sn : List Str} {sub : List Value} {ab : Bool} {col : Option Bool} {dd : Option Addr} {k0 k1 k2 k3 k5 : Option Value} (h : K.lookup HE = some (excClassObj nm q HE N bs veMro true sn sub ab col dd k0 k1 k2 k3 k5 "ValueError.__new__")) : PySem.W.kitOne K (.ref C) (.ref HE) = some true := by
  rw [cl_kit l (cl_at h)]; simp
end
section
variable {K : PySem.W.Frag} {HE C D : Addr}
theorem cl_subS {bm : List Value} (l : ClAt K C bm) : Sub K C C := by
  obtain ⟨_, _, _, _, _, _, _, _, _, _, _, _, _, _, l⟩ := l
  exact ⟨_, _, _, _, _, _, _, _, _, _, _, _, _, _, _, _, _, l, by simp⟩
end
theorem all14 {p : Nat → Prop} (a : p 20) (b : p 21) (c : p 22) (d : p 23) (e : p 24) (f : p 25) (g : p 26) (h : p 27) (i : p 28) (j : p 29) (k : p 30) (l : p 31) (m : p 32) (n : p 33) : ∀ x, 20 ≤ x → x ≤ 33 → p x := fun x h1 h2 => by
  rcases (by omega : x = 20 ∨ x = 21 ∨ x = 22 ∨ x = 23 ∨ x = 24 ∨ x = 25 ∨ x = 26 ∨ x = 27 ∨ x = 28 ∨ x = 29 ∨ x = 30 ∨ x = 31 ∨ x = 32 ∨ x = 33) with rfl | rfl | rfl | rfl | rfl | rfl | rfl | rfl | rfl | rfl | rfl | rfl | rfl | rfl <;> assumption
noncomputable def spSigned : Sp := fun vs H Q _ => ∃ (z : Str) (c : Int), vs = [.str z, .int c] ∧ 1 ≤ z.length ∧ z.length ≤ 5900 ∧ ∀ (y : Str) H', y.length ≤ z.length + 2 → Same H H' → Q (.str y) H'
structure XFam14 (K : PySem.W.Frag) (C : Nat → Addr) : Prop where
  x : ClsX K (C 21)
  s20 : Sub K (C 21) (C 20)
  s21 : Sub K (C 21) (C 21)
  k : ∀ j, 20 ≤ j → j ≤ 33 → PySem.W.kitOne K (.ref (C 21)) (.ref (C j)) = some (decide (j = 21 ∨ j = 20))
  v : PySem.W.kitOne K (.ref (C 21)) (.type "ValueError") = some true
noncomputable def spRead14 (K : PySem.W.Frag) (C : Nat → Addr) : Sp := fun vs H Q E => ∃ v : V, vs = [v] ∧ ((∃ z : Str, v = .str z ∧ z.length ≤ 6000 ∧ (∀ ts, GoodTs ts → Txt.split z (" " : Str) = wordsOf ts → ∀ l H', H l = none → Same H H' → TmsAt H' l ts → Q (.ref l) H') ∧ (¬ RdE (Txt.split z (" " : Str)) → Xx (C 21) H E)) ∨ (NoTx K H v ∧ Xx (C 21) H E))
noncomputable def spLR14 : Sp := fun vs H Q _ => ∃ z : Str, vs = [.str z] ∧ z.length ≤ 6000 ∧ (∀ ts, GoodTs ts → Txt.split z (" " : Str) = wordsOf ts → ∀ l' H', H l' = none → Same H H' → TmsAt H' l' ts → Q (.ref l') H') ∧ (¬ RdE (Txt.split z (" " : Str)) → Pur .non H Q)
noncomputable def spOther14 (C : Nat → Addr) : Sp := fun vs H Q _ => ∃ x : Addr, vs = [.ref x] ∧ H x = some (ExO false x (C 21) none) ∧ Pur (.bl false) H Q
noncomputable def spRefused14 (K : PySem.W.Frag) : Sp := fun vs H Q _ => ∃ v : V, vs = [v] ∧ ((∃ z : Str, v = .str z ∧ z.length ≤ 6000 ∧ ¬ RdE (Txt.split z (" " : Str))) ∨ NoTx K H v) ∧ Pur (.bl true) H Q
noncomputable def spWorded : Sp := fun vs H Q _ => ∃ (l : Addr) (ws : List Str) (c : Int), vs = [.ref l, .int c] ∧ H l = some (.lst (ws.map V.str)) ∧ ws ≠ [] ∧ tot ws ≤ 600 ∧ ∀ p (ys : List Str) H', Same H H' → H' p = some (.lst (ys.map V.str)) → tot ys ≤ 5800 → Q (.ref p) H'
noncomputable def wl14 : List V := [V.str "+", V.str "-", V.str "", V.str "a", V.str "07", V.str (Txt.mul "1" 21), V.str (Txt.mul "9" 20), V.str "a.b.c.d.e", V.str "a()()", V.str "()", V.str "a.b()", V.str "a..b", V.str "abcdefghi", V.str "0"]
theorem wl14_word {v : V} (h : v ∈ wl14) : ∃ w, v = .str w ∧ w.length ≤ 30 := by
  unfold wl14 at h
  simp only [List.mem_cons, List.not_mem_nil, or_false] at h
  rcases h with rfl | rfl | rfl | rfl | rfl | rfl | rfl | rfl | rfl | rfl | rfl | rfl | rfl | rfl
  all_goals exact ⟨_, rfl, by decide +kernel⟩
theorem cut_one (ws : List Str) {k : Nat} (h : k < ws.length) : cutV (ws.map V.str) (some (k : Int)) (some ((k : Int) + 1)) = ((ws.drop k).take 1).map V.str := by
  unfold cutV
  rw [show ((k : Int) + 1) = ((k + 1 : Nat) : Int) from rfl, HT.sIx_nat, HT.sIx_nat, List.length_map, Nat.min_eq_left (by omega), Nat.min_eq_left (by omega), show k + 1 - k = 1 from by omega, ← List.map_drop, ← List.map_take]
theorem map_flat {w u : Str} : ∀ n : Nat, (List.replicate n [w, u]).flatten.map V.str = (List.replicate n [V.str w, V.str u]).flatten
  | 0 => rfl
  | n + 1 => by rw [List.replicate_succ, List.flatten_cons, List.map_append, map_flat n, List.replicate_succ, List.flatten_cons]; rfl
theorem tot_rep (w : Str) : ∀ n : Nat, tot (List.replicate n [("+" : Str), w]).flatten = n * (w.length + 3)
  | 0 => by simp [tot]
  | n + 1 => by
    rw [List.replicate_succ, List.flatten_cons, tot_app, tot_rep w n, show [("+" : Str), w] = [("+" : Str)] ++ [w] from rfl, tot_app, tot_one, tot_one, show ((("+" : Str))).length = 1 by decide +kernel, Nat.add_mul]
    omega
theorem tms_dsq {K : PySem.W.Frag} {H : Hp} {l r : Addr} {ts : List Trm} (h1 : TmsAt H l ts) (h2 : TmsAt H r ts) : DSq K H l r := by
  obtain ⟨xs, hl, hn, hx⟩ := h1
  obtain ⟨ys, hr, hm, hy⟩ := h2
  refine ⟨2, xs, ys, by decide, by rw [hn, hm], .inr ⟨SqL.of hl, SqL.of hr⟩, fun i x y ex ey => ?_⟩
  obtain ⟨t, et, tm⟩ := hx i x ex
  obtain ⟨t', et', tm'⟩ := hy i y ey
  rw [et] at et'
  cases et'
  obtain ⟨p, a, rfl, hp, ha⟩ := tm
  obtain ⟨q, b, rfl, hq, hb⟩ := tm'
  refine .tup (SqT.of hp) (SqT.of hq) rfl fun j u v eu ev => ?_
  match j, eu, ev with
  | 0, eu, ev => cases eu; cases ev; exact .int _
  | 1, eu, ev => cases eu; cases ev; exact .str _
  | 2, eu, ev => cases eu; cases ev; exact ha.deq hb
  | n + 3, eu, ev => simp at eu
theorem same_untr {H H2 : Hp} {y : Addr} {o : HO} (h : H y = some o) (s : Same (untr y H) H2) : Same H (upd H2 y o) := fun b u e => by
  by_cases hb : b = y
  · subst hb; rw [upd_same, ← h]; exact e
  · rw [upd_ne hb]; exact s b u (by rw [untr_ne hb]; exact e)
theorem word_short {z : Str} (h : RdW z) : z.length ≤ 38 := by
  obtain ⟨th, g, rfl⟩ := h
  exact word_len g
theorem split1 {x : Str} (h : 32 ∉ x.cps.toList) : Txt.split x (" " : Str) = [x] := by
  have := split_join 32 [x] (by simp) fun y hy => by rw [List.mem_singleton.mp hy]; exact h
  rw [blank_eq]
  have e : Str.join ⟨#[32]⟩ [x] = x := strExt (by rw [join_codes]; rfl)
  rwa [e] at this
theorem not_rdE1 {w : Str} (h : ¬ RdW w) : ¬ RdE [w] := fun r => h (rdE_even r (i := 0) rfl)
theorem fold_codes {ch : Nat} : ∀ (k : Nat) (acc : Array Nat), ((List.replicate k #[ch]).foldl (· ++ ·) acc).toList = acc.toList ++ List.replicate k ch
  | 0, acc => by simp
  | k + 1, acc => by
    rw [List.replicate_succ, List.foldl_cons, fold_codes k, Array.toList_append, List.append_assoc, List.replicate_succ]; rfl
theorem mul_codes {z : Str} {ch : Nat} (h : z.cps = #[ch]) {n : Int} (h2 : 2 ≤ n) : (Txt.mul z n).cps.toList = List.replicate n.toNat ch := by
  unfold Txt.mul
  have hl : z.length = 1 := by show z.cps.size = 1; rw [h]; rfl
  rw [if_neg (by omega), if_neg (by rw [hl]; simp; omega)]
  show ((List.replicate n.toNat z.cps).foldl (· ++ ·) #[]).toList = _
  rw [h, fold_codes]; rfl
theorem no_long {z : Str} (h : 38 < z.length) : ¬ RdW z := fun r => absurd (word_short r) (by omega)
theorem mul_len1 {z : Str} {ch : Nat} (h : z.cps = #[ch]) {n : Int} (h2 : 2 ≤ n) : (Txt.mul z n).length = n.toNat := by
  rw [strLen, mul_codes h h2, List.length_replicate]
theorem ch7 : ("7" : Str).cps = #[55] := by decide +kernel
theorem ch1 : ("1" : Str).cps = #[49] := by decide +kernel
theorem nr7 : (Txt.mul "7" 5000).length ≤ 6000 ∧ ¬ RdE (Txt.split (Txt.mul "7" 5000) (" " : Str)) := by
  have hl := mul_len1 ch7 (n := 5000) (by decide)
  refine ⟨by rw [hl]; decide, ?_⟩
  rw [split1 (by rw [mul_codes ch7 (by decide)]; intro k; have := List.eq_of_mem_replicate k; cases this)]
  exact not_rdE1 (no_long (by rw [hl]; decide))
theorem nr1 : (("a + " : Str) ++ Txt.mul "1" 4400).length ≤ 6000 ∧ ¬ RdE (Txt.split (("a + " : Str) ++ Txt.mul "1" 4400) (" " : Str)) := by
  have hl := mul_len1 ch1 (n := 4400) (by decide)
  have hc := mul_codes ch1 (n := 4400) (by decide)
  refine ⟨by rw [appLen, hl, show ((("a + " : Str))).length = 4 by decide +kernel]; decide, ?_⟩
  generalize Txt.mul "1" 4400 = x at hl hc
  have hx : 32 ∉ x.cps.toList := by rw [hc]; intro k; have := List.eq_of_mem_replicate k; cases this
  have e : ("a + " : Str) ++ x = Str.join ⟨#[32]⟩ [("a" : Str), "+", x] := strExt (by
    rw [strApp, join_codes]
    show _ = inter 32 [("a" : Str).cps.toList, ("+" : Str).cps.toList, x.cps.toList]
    rw [show ("a + " : Str).cps.toList = [97, 32, 43, 32] by decide +kernel, show ("a" : Str).cps.toList = [97] by decide +kernel, show ("+" : Str).cps.toList = [43] by decide +kernel]
    rfl)
  have sp : Txt.split (("a + " : Str) ++ x) (" " : Str) = [("a" : Str), "+", x] := by
    rw [e, blank_eq]
    refine split_join 32 _ (by simp) fun y hy => ?_
    simp only [List.mem_cons, List.not_mem_nil, or_false] at hy
    rcases hy with rfl | rfl | rfl
    · decide +kernel
    · decide +kernel
    · exact hx
  rw [sp]
  exact fun r => no_long (by rw [hl]; decide) (rdE_even r (i := 1) rfl)
theorem nr0 : ¬ RdE (Txt.split ("" : Str) (" " : Str)) := by
  rw [show Txt.split ("" : Str) (" " : Str) = [("" : Str)] by decide +kernel]; exact not_rdE1 not_rdW0
theorem nrb : ¬ RdE (Txt.split (" " : Str) (" " : Str)) := fun r => by
  have := (rdE_len r).1
  rw [show Txt.split (" " : Str) (" " : Str) = [("" : Str), ""] by decide +kernel] at this
  cases this
theorem nrp : ¬ RdE (Txt.split ("+" : Str) (" " : Str)) := by
  rw [show Txt.split ("+" : Str) (" " : Str) = [("+" : Str)] by decide +kernel]; exact not_rdE1 (not_rdP (by decide +kernel) (by decide +kernel) (by decide +kernel))
theorem blanklen : ((" " : Str)).length = 1 := by decide +kernel
theorem text_pos {ts : List Trm} (g : GoodTs ts) : 1 ≤ (textOf ts).length := by
  rcases Nat.eq_zero_or_pos (textOf ts).length with e | e
  · have z : textOf ts = "" := strExt (by rw [strLen] at e; rw [List.length_eq_zero_iff.mp e]; decide +kernel)
    have h := text_split g
    rw [z] at h
    exact absurd ⟨ts, g, h⟩ nr0
  · exact e
theorem text_le {ts : List Trm} (g : GoodTs ts) : (textOf ts).length ≤ 480 := by
  have := textOf_len (ts := ts) fun t ht => g.ok t ht
  have := g.hi
  omega

end
structure Tx (K : PySem.W.Frag) (mg : Str → Option Value) (C : Nat → Addr) : Prop where
  len : mg "len" = none
  range : mg "range" = none
  inst : mg "isinstance" = none
  t_str : mg "str" = none
  t_int : mg "int" = none
  t_bool : mg "bool" = none
  t_list : mg "list" = none
  t_tuple : mg "tuple" = none
  all : mg "all" = none
  max : mg "max" = none
  min : mg "min" = none
  t_ValueError : mg "ValueError" = none
  g_LETTERS : ∃ t, mg "LETTERS" = some (.str "abcdefghijklmnopqrstuvwxyz" t)
  g_MOST_LETTERS : ∃ t, mg "MOST_LETTERS" = some (.int 8 t)
  g_FIGURES : ∃ t, mg "FIGURES" = some (.str "0123456789" t)
  g_MOST_FIGURES : ∃ t, mg "MOST_FIGURES" = some (.int 20 t)
  g_MOST_TERMS : ∃ t, mg "MOST_TERMS" = some (.int 6 t)
  g_MOST_STEPS : ∃ t, mg "MOST_STEPS" = some (.int 4 t)
  a_is_name : ∃ f fd, FnAt K mg "is_name" s_is_name psPIsName f fd
  a_are_names : ∃ f fd, FnAt K mg "are_names" s_are_names psPAreNames f fd
  a_is_number : ∃ f fd, FnAt K mg "is_number" s_is_number psPIsNumber f fd
  a_read_path : ∃ f fd, FnAt K mg "read_path" s_read_path psPReadPath f fd
  a_read_term : ∃ f fd, FnAt K mg "read_term" s_read_term psPReadTerm f fd
  a_read_sign : ∃ f fd, FnAt K mg "read_sign" s_read_sign psPReadSign f fd
  a_read_expr : ∃ f fd, FnAt K mg "read_expr" s_read_expr psPReadExpr f fd
  a_law_cell : ∃ f fd, FnAt K mg "_law_cell" s_law_cell psCell f fd
  a_law_sub : ∃ f fd, FnAt K mg "_law_sub" s_law_sub psSub f fd
  a_law_number : ∃ f fd, FnAt K mg "_law_number" s_law_number psNumber f fd
  a_law_pick : ∃ f fd, FnAt K mg "_law_pick" s_law_pick psPick f fd
  a_law_name : ∃ f fd, FnAt K mg "_law_name" s_law_name psName f fd
  a_law_term : ∃ f fd, FnAt K mg "_law_term" s_law_term psTerm f fd
  a_law_terms : ∃ f fd, FnAt K mg "_law_terms" s_law_terms psTerms f fd
  a_law_word : ∃ f fd, FnAt K mg "_law_word" s_law_word psWord f fd
  a_law_text : ∃ f fd, FnAt K mg "_law_text" s_law_text psText f fd
  a_law_is_name : ∃ f fd, FnAt K mg "_law_is_name" s_law_is_name psIsName f fd
  a_law_read_word : ∃ f fd, FnAt K mg "_law_read_word" s_law_read_word psReadWord f fd
  a_law_read : ∃ f fd, FnAt K mg "_law_read" s_law_read psRead f fd
  a_law_worded : ∃ f fd, FnAt K mg "_law_worded" s_law_worded psWorded f fd
  a_law_signed : ∃ f fd, FnAt K mg "_law_signed" s_law_signed psSigned f fd
  a_law_other : ∃ f fd, FnAt K mg "_law_other" s_law_other psOther f fd
  a_law_refused : ∃ f fd, FnAt K mg "_law_refused" s_law_refused psRefused f fd
  a_law_taken : ∃ f fd, FnAt K mg "_law_taken" s_law_taken psTaken f fd
  c_HouseError : mg "HouseError" = some (.ref (C 20))
  c_NoExpr : mg "NoExpr" = some (.ref (C 21))
  c_NoText : mg "NoText" = some (.ref (C 22))
  c_Clash : mg "Clash" = some (.ref (C 23))
  c_Double : mg "Double" = some (.ref (C 24))
  c_Fault : mg "Fault" = some (.ref (C 25))
  c_NoDrop : mg "NoDrop" = some (.ref (C 26))
  c_NoName : mg "NoName" = some (.ref (C 27))
  c_NoPart : mg "NoPart" = some (.ref (C 28))
  c_NoRow : mg "NoRow" = some (.ref (C 29))
  c_Orphan : mg "Orphan" = some (.ref (C 30))
  c_TooMany : mg "TooMany" = some (.ref (C 31))
  c_TooWide : mg "TooWide" = some (.ref (C 32))
  c_Twice : mg "Twice" = some (.ref (C 33))
  x_HouseError : ExC K (C 20)
  x_NoExpr : ExC K (C 21)
  xf : XFam14 K C
  i_NoExpr : PySem.W.findIn K (.ref (C 21)) "__init__" = some (some (.builtin "ValueError.__init__"))
  k_NoExpr : PySem.W.keepIn K (.ref (C 21)) = true
end Mine
namespace Mine
open PySem PySem.Spec PyProof.Rows L2
section
variable {P : Program} {w : World} {K : PySem.W.Frag} {mg : Str → Option Value} {base : Heap}
theorem ok_is_name {C : Nat → Addr} (T : Tx K mg C) {f : Addr} {fd : FuncData} (F : Fun K "is_name" "is_name" s_is_name f fd) : FnOkG P w K mg base CX0 1 f fd psPIsName spIsN6 := by
  refine F.okG scPIsName (fun vs H Q E h => ?_) (fun cdv A outer s H vs Q E hr hs h => ?_)
  · obtain ⟨z, rfl, _⟩ := h
    rfl
  · obtain ⟨z, rfl, hz, q⟩ := h
    refine ⟨_, QSs.h (qss_cons (qs_if (pt_not (pt_val (pe_callB call_inst (by rfl) T.inst PyProof.Rows.boot_isinstance (pa_cons (pv 0) (pa_cons (pe_bltn (v := .ty "str") (by rfl) T.t_str PyProof.Rows.boot_str rfl) pa_nil))))) (qss_one (qs_ret pe_bl)) qss_nil)
      (qss_cons (qs_if (PW.pt (pw_or (pt_cmpR op_lt (pe_callB call_len_str (by rfl) T.len PySem.boot_len (pa_cons (pv 0) pa_nil)) pe_int (nomark _)) (pw_or1 (pt_cmpR op_gt (pe_callB call_len_str (by rfl) T.len PySem.boot_len (pa_cons (pv 0) pa_nil)) (pgl_int T.g_MOST_LETTERS) (nomark _))))) (qss_one (qs_ret pe_bl)) qss_nil)
      (qss_one (qs_ret (pe_callB (call_all rfl) (by rfl) T.all PyProof.Rows.boot_all (pa_cons (pe_comp (N := ["sign"]) [none] rfl (by kernel_rfl) (pi_str (pv 0)) (fun cl C fp s H => (pg_name (i := 0) (by decide +kernel : (["sign"] : List Str).Nodup) rfl (Or.inl rfl))) (fun cl C fp s H => pf_nil) (fun cl C fp s H => (pe_cmpR op_in_str (pv 0) (pgl_str T.g_LETTERS) (by rfl)))) pa_nil)))))), ?_⟩
    have hz' : z.length ≤ sizeLine := Nat.le_trans hz (by decide)
    refine ⟨_, rfl, _, _, _, _, rfl, .str _, kit_same, _, rfl, iteF ?_⟩
    refine ⟨_, rfl, _, rfl, hz', _, _, rfl, rfl, _, rfl, ite2d (fun h1 => iteT ?_) (fun h1 => ?_)⟩
    · have e : nmB z = false := by
        unfold nmB
        rw [decide_eq_false (by omega)]; rfl
      have q' := q H (Same.refl H)
      rw [e] at q'
      exact q'
    refine ⟨_, rfl, _, rfl, hz', _, _, rfl, rfl, _, rfl, ite2d (fun h2 => ?_) (fun h2 => ?_)⟩
    · have e : nmB z = false := by
        unfold nmB
        rw [decide_eq_false (show ¬ z.length ≤ 8 by omega), Bool.and_false]; rfl
      have q' := q H (Same.refl H)
      rw [e] at q'
      exact q'
    refine ⟨_, rfl, z, rfl, ?_⟩
    refine comp_str (fun c => V.bl (inL c)) hz' (fun c H' Q' hc sm k' => ?_) (fun H' sm p hp => ?_)
    · exact ⟨_, rfl, _, _, rfl, rfl, k' _ (Same.refl _)⟩
    · refine ⟨p, z.cps.toList.map inL, rfl, SqL.of (by rw [upd_same, List.map_map]; rfl), ?_⟩
      have e : nmB z = (z.cps.toList.map inL).all id := by
        unfold nmB
        rw [decide_eq_true (show 1 ≤ z.length by omega), decide_eq_true (show z.length ≤ 8 by omega), List.all_map]; rfl
      rw [e] at q
      exact q _ (sm.put hp)

theorem ok_are_names {C : Nat → Addr} (T : Tx K mg C) {f : Addr} {fd : FuncData} (F : Fun K "are_names" "are_names" s_are_names f fd) : FnOkG P w K mg base CX0 2 f fd psPAreNames spAre6 := by
  obtain ⟨f_is_name, fd_is_name, A_is_name⟩ := T.a_is_name
  have G_is_name : FnOkG P w K mg base CX0 1 f_is_name fd_is_name psPIsName spIsN6 := ok_is_name T A_is_name.F
  refine F.okG scPAreNames (fun vs H Q E h => ?_) (fun cdv A outer s H vs Q E hr hs h => ?_)
  · obtain ⟨z, m, rfl, _⟩ := h
    rfl
  · obtain ⟨z, m, rfl, hz, q⟩ := h
    unfold pthB at q
    have hr1 : RoomG 1 _ := hr
    refine ⟨_, QSs.h (qss_cons (qs_set (i := 2) scPAreNames.nd rfl (Or.inl rfl) (pe_bm PySem.F.plainAttrs_str PySem.F.slot_str_split PySem.F.type_str_split mt_split (pv 0) (pa_cons pe_str pa_nil)))
      (qss_one (qs_ret (pe_and (pe_cmpR op_le (pe_callB call_len_seq (by rfl) T.len PySem.boot_len (pa_cons (pv 2) pa_nil)) (pv 1) (nomark _)) (pe_one (pe_callB (call_all rfl) (by rfl) T.all PyProof.Rows.boot_all (pa_cons (pe_comp (N := ["name"]) [none] rfl (by kernel_rfl) (pi_list (pv 2)) (fun cl C fp s H => (pg_name (i := 0) (by decide +kernel : (["name"] : List Str).Nodup) rfl (Or.inl rfl))) (fun cl C fp s H => pf_nil) (fun cl C fp s H => (pcallG A_is_name G_is_name hr1 (pa_cons (pv 0) pa_nil)))) pa_nil))))))), ?_⟩
    refine ⟨_, rfl, rfl, _, _, rfl, rfl, dotlen0, Nat.le_trans (show z.length + 2 ≤ 6002 by omega) (by decide), fun p hp => ?_⟩
    have hlen := split_few z ("." : Str) (Nat.le_trans (show z.length + 2 ≤ 6002 by omega) (by decide))
    refine ⟨_, rfl, p, _, rfl, .inl (SqL.of upd_same), _, rfl, _, _, rfl, rfl, _, rfl, ite2d (fun h1 => ?_) (fun h1 => ?_)⟩
    · rw [List.length_map] at h1
      refine ⟨_, rfl, p, rfl, ⟨_, SqL.of upd_same⟩, ?_⟩
      refine comp_list (fun v => match v with | .str y => .bl (nmB y) | _ => .non) (by rw [List.length_map]; exact hlen) (SqL.of upd_same) (fun x H' Q' hx sm k' => ?_) (fun H' sm p2 hp2 => ?_)
      · obtain ⟨y, hy, rfl⟩ := List.mem_map.mp hx
        exact ⟨_, rfl, y, rfl, Nat.le_trans (split_dot hy) hz, k'⟩
      · refine ⟨p2, (Txt.split z ("." : Str)).map nmB, rfl, SqL.of (by rw [upd_same, List.map_map, List.map_map]; rfl), ?_⟩
        have e : (decide (((Txt.split z ("." : Str)).length : Int) ≤ (m : Int)) && (Txt.split z ("." : Str)).all nmB) = ((Txt.split z ("." : Str)).map nmB).all id := by
          rw [decide_eq_true h1, List.all_map]; rfl
        rw [e] at q
        exact q _ (((Same.new hp).trans sm).put hp2)
    · rw [List.length_map] at h1
      have q' := q _ (Same.new (o := .lst ((Txt.split z ("." : Str)).map V.str)) hp)
      rw [decide_eq_false h1] at q'
      exact q'

theorem ok_is_number {C : Nat → Addr} (T : Tx K mg C) {f : Addr} {fd : FuncData} (F : Fun K "is_number" "is_number" s_is_number f fd) : FnOkG P w K mg base CX0 1 f fd psPIsNumber spNum := by
  refine F.okG scPIsNumber (fun vs H Q E h => ?_) (fun cdv A outer s H vs Q E hr hs h => ?_)
  · obtain ⟨z, rfl, _⟩ := h
    rfl
  · obtain ⟨z, rfl, hz, q⟩ := h
    refine ⟨_, QSs.h (qss_cons (qs_if (PW.pt (pw_or (pt_cmpR op_lt (pe_callB call_len_str (by rfl) T.len PySem.boot_len (pa_cons (pv 0) pa_nil)) pe_int (nomark _)) (pw_or1 (pt_cmpR op_gt (pe_callB call_len_str (by rfl) T.len PySem.boot_len (pa_cons (pv 0) pa_nil)) (pgl_int T.g_MOST_FIGURES) (nomark _))))) (qss_one (qs_ret pe_bl)) qss_nil)
      (qss_cons (qs_if (PW.pt (pw_and (pt_cmpR op_eq (pe_ix ix_str (pv 0) pe_int (fun _ _ => rfl)) pe_str (nomark _)) (pw_and1 (pt_cmpR op_ne (pv 0) pe_str (nomark _))))) (qss_one (qs_ret pe_bl)) qss_nil)
      (qss_one (qs_ret (pe_callB (call_all rfl) (by rfl) T.all PyProof.Rows.boot_all (pa_cons (pe_comp (N := ["sign"]) [none] rfl (by kernel_rfl) (pi_str (pv 0)) (fun cl C fp s H => (pg_name (i := 0) (by decide +kernel : (["sign"] : List Str).Nodup) rfl (Or.inl rfl))) (fun cl C fp s H => pf_nil) (fun cl C fp s H => (pe_cmpR op_in_str (pv 0) (pgl_str T.g_FIGURES) (by rfl)))) pa_nil)))))), ?_⟩
    have hz' : z.length ≤ sizeLine := Nat.le_trans hz (by decide)
    have q0 := q H (Same.refl H)
    refine ⟨_, rfl, _, rfl, hz', _, _, rfl, rfl, _, rfl, ite2d (fun h1 => iteT ?_) (fun h1 => ?_)⟩
    · have e : numB z = false := by
        unfold numB
        rw [decide_eq_false (by omega)]; rfl
      rw [e] at q0
      exact q0
    refine ⟨_, rfl, _, rfl, hz', _, _, rfl, rfl, _, rfl, ite2d (fun h2 => ?_) (fun h2 => ?_)⟩
    · have e : numB z = false := by
        unfold numB
        rw [decide_eq_false (show ¬ z.length ≤ 20 by omega), Bool.and_false]; rfl
      rw [e] at q0
      exact q0
    cases hcs : z.cps.toList with
    | nil => exact absurd (by rw [strLen, hcs]; rfl : z.length = 0) (by omega)
    | cons c0 cr =>
    have hat : atI z.cps.toList 0 = some c0 := atI_nat (j := 0) (by rw [hcs]; rfl)
    have rest : numB z = (z.cps.toList.map inF).all id → tRet (tCB (rAll K fun bs => bs.all id) (tCons (tComp [none] (iStr (tVar 0)) (gName 0) tYes (tOp (fun x y H Q => ∃ i j, x = .str i ∧ y = .str j ∧ Q (.bl (!(Builtin.Str.occurrences j i 0 j.length 1).isEmpty)) H) (tVar 0) (tC (.str figs)))) tNil))
        { nx := fun _ H' => Q .non H', rt := Q } (start ["word"] [V.str z]) H := fun e => by
      refine ⟨_, rfl, z, rfl, ?_⟩
      refine comp_str (fun c => V.bl (inF c)) hz' (fun c H' Q' hc sm k' => ?_) (fun H' sm p hp => ?_)
      · exact ⟨_, rfl, _, _, rfl, rfl, k' _ (Same.refl _)⟩
      · refine ⟨p, z.cps.toList.map inF, rfl, SqL.of (by rw [upd_same, List.map_map]; rfl), ?_⟩
        rw [e] at q
        exact q _ (sm.put hp)
    have hnum : numB z = (!(decide (c0 = 48) && !decide (z = zero)) && (z.cps.toList.map inF).all id) := by
      unfold numB
      rw [decide_eq_true (show 1 ≤ z.length by omega), decide_eq_true (show z.length ≤ 20 by omega), List.all_map, hcs]
      have : decide ((c0 :: cr).head? = some 48) = decide (c0 = 48) := by
        by_cases h : c0 = 48
        · rw [decide_eq_true h, decide_eq_true (by rw [h]; rfl)]
        · rw [decide_eq_false h, decide_eq_false (fun z => h (by simpa using z))]
      rw [this]
      rfl
    refine ⟨_, rfl, z, _, c0, rfl, rfl, hz', hat, rfl, _, rfl, ite2d (fun h3 => ?_) (fun h3 => ?_)⟩
    · have hc : c0 = 48 := by
        have e : (⟨#[c0]⟩ : Str) = ("0" : Str) := V.str.inj h3
        have e2 := congrArg (fun x : Str => x.cps.toList) e
        have e3 : (("0" : Str)).cps.toList = [48] := by decide +kernel
        rw [e3] at e2
        simpa using e2
      by_cases hz0 : z = zero
      · have hv : V.str z = V.str "0" := congrArg V.str hz0
        refine ⟨_, rfl, rfl, _, rfl, iteNTb (decide_eq_true hv) (rest ?_)⟩
        rw [hnum, decide_eq_true hz0, Bool.not_true, Bool.and_false]; rfl
      · have hv : ¬ V.str z = V.str "0" := fun e => hz0 (V.str.inj e)
        refine ⟨_, rfl, rfl, _, rfl, iteNFb (decide_eq_false hv) ?_⟩
        rw [hnum, decide_eq_true hc, decide_eq_false hz0] at q0
        exact q0
    · have hc : ¬ c0 = 48 := fun e => h3 (by subst e; exact congrArg V.str (strExt (by decide +kernel)))
      refine iteF (rest ?_)
      rw [hnum, decide_eq_false hc]; rfl

theorem ok_read_path {C : Nat → Addr} (T : Tx K mg C) {f : Addr} {fd : FuncData} (F : Fun K "read_path" "read_path" s_read_path f fd) : FnOkG P w K mg base (CX1 P w) 3 f fd psPReadPath (spPath6 C) := by
  obtain ⟨f_are_names, fd_are_names, A_are_names⟩ := T.a_are_names
  have G_are_names : FnOkG P w K mg base CX0 2 f_are_names fd_are_names psPAreNames spAre6 := ok_are_names T A_are_names.F
  refine F.okXG scPReadPath (fun vs H Q E h => ?_) (fun cdv A outer s H vs Q E hr hs h => ?_)
  · obtain ⟨z, rfl, _⟩ := h
    rfl
  · obtain ⟨z, rfl, hz, q, qx⟩ := h
    have hr2 : RoomG 2 _ := hr
    refine ⟨_, QSs.h (qss_cons (qs_if (pt_not (pt_val (pcallG A_are_names G_are_names hr2 (pa_cons (pv 0) (pa_cons (pgl_int T.g_MOST_STEPS) pa_nil))))) (qss_one (qs_raise wish_def rfl (pe_makeX0 T.x_NoExpr T.i_NoExpr T.k_NoExpr (by rfl) T.c_NoExpr (pa_cons pe_str pa_nil)))) qss_nil)
      (qss_one (qs_ret (pe_callTy call_tuple_of (by rfl) T.t_tuple PyProof.Rows.boot_tuple (pa_cons (pe_bm PySem.F.plainAttrs_str PySem.F.slot_str_split PySem.F.type_str_split mt_split (pv 0) (pa_cons pe_str pa_nil)) pa_nil))))), ?_⟩
    refine ⟨_, rfl, z, 4, rfl, hz, fun H1 s1 => ⟨_, rfl, ?_⟩⟩
    cases e : pthB 4 z with
    | false => exact iteNFb rfl ⟨rfl, fun x hx => ⟨x, _, _, rfl, upd_same, T.x_NoExpr, ((qx e).on s1).go hx⟩⟩
    | true =>
      obtain ⟨ys, g, ez⟩ := pth4.mp e
      have hsp := dotted_split ys g.lo g.nm
      refine iteNTb rfl ?_
      refine ⟨_, rfl, rfl, _, _, rfl, rfl, dotlen0, Nat.le_trans (show z.length + 2 ≤ 6002 by omega) (by decide), fun p hp => ?_⟩
      refine ⟨p, _, rfl, .inl ⟨SqL.of upd_same, fun r hr' => ?_⟩⟩
      refine q ys g ez r _ ((s1.put hp).put hr') ?_
      rw [upd_same, ez, hsp]

theorem ok_read_term {C : Nat → Addr} (T : Tx K mg C) {f : Addr} {fd : FuncData} (F : Fun K "read_term" "read_term" s_read_term f fd) : FnOkG P w K mg base (CX1 P w) 4 f fd psPReadTerm (spReadT6 C) := by
  obtain ⟨f_is_number, fd_is_number, A_is_number⟩ := T.a_is_number
  have G_is_number : FnOkG P w K mg base CX0 1 f_is_number fd_is_number psPIsNumber spNum := ok_is_number T A_is_number.F
  obtain ⟨f_read_path, fd_read_path, A_read_path⟩ := T.a_read_path
  have G_read_path : FnOkG P w K mg base (CX1 P w) 3 f_read_path fd_read_path psPReadPath (spPath6 C) := ok_read_path T A_read_path.F
  refine F.okXG scPReadTerm (fun vs H Q E h => ?_) (fun cdv A outer s H vs Q E hr hs h => ?_)
  · obtain ⟨sg, z, rfl, _⟩ := h
    rfl
  · obtain ⟨sg, z, rfl, hz, q, qx⟩ := h
    have hr1 : RoomG 1 _ := hr.mono (by decide)
    have hr3 : RoomG 3 _ := hr
    refine ⟨_, QSs.h (qss_cons (qs_if (pt_val (pcallG A_is_number G_is_number hr1 (pa_cons (pv 1) pa_nil))) (qss_one (qs_ret (pe_tup (pa_cons (pv 0) (pa_cons pe_str (pa_cons (pe_callTy call_int_str (by rfl) T.t_int PyProof.Rows.boot_int (pa_cons (pv 1) pa_nil)) pa_nil)))))) qss_nil)
      (qss_cons (qs_if (pt_val (pe_bm PySem.F.plainAttrs_str PySem.F.slot_str_endswith PySem.F.type_str_endswith mt_endswith (pv 1) (pa_cons pe_str pa_nil))) (qss_one (qs_ret (pe_tup (pa_cons (pv 0) (pa_cons pe_str (pa_cons (pcallXG A_read_path G_read_path hr3 wish_def (pa_cons (pe_slice sl_str (pv 1) po_none (po_some (pe_un un_neg pe_int))) pa_nil)) pa_nil)))))) qss_nil)
      (qss_one (qs_ret (pe_tup (pa_cons (pv 0) (pa_cons pe_str (pa_cons (pcallXG A_read_path G_read_path hr3 wish_def (pa_cons (pv 1) pa_nil)) pa_nil)))))))), ?_⟩
    refine ⟨_, rfl, z, rfl, by omega, fun H1 s1 => ⟨_, rfl, ?_⟩⟩
    cases en : numB z with
    | true =>
      obtain ⟨m, hm, ez⟩ := numB_num en
      obtain ⟨n1, n2, n3, n4⟩ := numS_ok hm
      refine iteTb rfl ?_
      refine ⟨_, rfl, _, rfl, z, _, rfl, by rw [ez]; exact n4, by rw [ez]; omega, by show 3 ≤ sizeLine; decide, fun p hp => ?_⟩
      exact q (.num m) hm ez _ _ (s1.put hp) ⟨p, _, rfl, upd_same, rfl⟩
    | false =>
      refine iteFb rfl ⟨_, rfl, rfl, _, _, rfl, rfl, _, rfl, ?_⟩
      cases ee : Txt.endswith z ("()" : Str) with
      | true =>
        obtain ⟨a, ea⟩ := ends_app (show Txt.endswith z brk = true from ee)
        subst ea
        have hla : a.length + 2 ≤ 6000 := by rw [appLen, brk_len] at hz; exact hz
        refine iteTb rfl ?_
        refine ⟨_, rfl, _, rfl, _, rfl, _, rfl, _, rfl, Nat.le_trans hz (by decide), a, congrArg (fun t => [V.str t]) (cut_call a (by omega)), by omega, fun ys g e p2 H2 s2 hp2 => ?_, fun e => (qx (not_rdC en e)).on s1⟩
        refine ⟨by show 3 ≤ sizeLine; decide, fun p hp => ?_⟩
        exact q (.nms true ys) g (by rw [e]; rfl) _ _ ((s1.trans s2).put hp) ⟨p, _, rfl, upd_same, p2, rfl, (Same.new hp) _ _ hp2⟩
      | false =>
        refine iteFb rfl ?_
        refine ⟨_, rfl, _, rfl, z, rfl, hz, fun ys g e p2 H2 s2 hp2 => ?_, fun e => (qx (not_rdP en ee e)).on s1⟩
        refine ⟨by show 3 ≤ sizeLine; decide, fun p hp => ?_⟩
        exact q (.nms false ys) g e _ _ ((s1.trans s2).put hp) ⟨p, _, rfl, upd_same, p2, rfl, (Same.new hp) _ _ hp2⟩

theorem ok_read_sign {C : Nat → Addr} (T : Tx K mg C) {f : Addr} {fd : FuncData} (F : Fun K "read_sign" "read_sign" s_read_sign f fd) : FnOkG P w K mg base (CX1 P w) 1 f fd psPReadSign (spSign6 C) := by
  refine F.okXG scPReadSign (fun vs H Q E h => ?_) (fun cdv A outer s H vs Q E hr hs h => ?_)
  · obtain ⟨z, rfl, _⟩ := h
    rfl
  · obtain ⟨z, rfl, q, qx⟩ := h
    refine ⟨_, QSs.h (qss_cons (qs_if (pt_cmpR op_eq (pv 0) pe_str (nomark _)) (qss_one (qs_ret pe_int)) qss_nil)
      (qss_cons (qs_if (pt_cmpR op_eq (pv 0) pe_str (nomark _)) (qss_one (qs_ret (pe_un un_neg pe_int))) qss_nil)
      (qss_one (qs_raise wish_def rfl (pe_makeX0 T.x_NoExpr T.i_NoExpr T.k_NoExpr (by rfl) T.c_NoExpr (pa_cons pe_str pa_nil)))))), ?_⟩
    refine ⟨_, rfl, rfl, _, rfl, ?_⟩
    by_cases e1 : z = "+"
    · exact iteTb (decide_eq_true (congrArg V.str e1)) (q 1 (.inl rfl) e1 H (Same.refl H))
    refine iteFb (decide_eq_false fun k => e1 (V.str.inj k)) ⟨_, rfl, rfl, _, rfl, ?_⟩
    by_cases e2 : z = "-"
    · exact iteTb (decide_eq_true (congrArg V.str e2)) ⟨_, rfl, q (-1) (.inr rfl) e2 H (Same.refl H)⟩
    refine iteFb (decide_eq_false fun k => e2 (V.str.inj k)) ⟨rfl, fun x hx => ⟨x, _, _, rfl, upd_same, T.x_NoExpr, (qx ?_).go hx⟩⟩
    rintro ⟨s, hs, k⟩
    rcases hs with rfl | rfl
    · exact e1 k
    · exact e2 k

theorem ok_read_expr {C : Nat → Addr} (T : Tx K mg C) {f : Addr} {fd : FuncData} (F : Fun K "read_expr" "read_expr" s_read_expr f fd) : FnOkG P w K mg base (CX1 P w) 5 f fd psPReadExpr (spRead14 K C) := by
  obtain ⟨f_read_term, fd_read_term, A_read_term⟩ := T.a_read_term
  have G_read_term : FnOkG P w K mg base (CX1 P w) 4 f_read_term fd_read_term psPReadTerm (spReadT6 C) := ok_read_term T A_read_term.F
  obtain ⟨f_read_sign, fd_read_sign, A_read_sign⟩ := T.a_read_sign
  have G_read_sign : FnOkG P w K mg base (CX1 P w) 1 f_read_sign fd_read_sign psPReadSign (spSign6 C) := ok_read_sign T A_read_sign.F
  refine F.okXG scPReadExpr (fun vs H Q E h => ?_) (fun cdv A outer s H vs Q E hr hs h => ?_)
  · obtain ⟨v, rfl, _⟩ := h
    rfl
  · obtain ⟨v, rfl, h⟩ := h
    have hr1 : RoomG 1 _ := hr.mono (by decide)
    have hr4 : RoomG 4 _ := hr
    refine ⟨_, QSs.h (qss_cons (qs_if (pt_not (pt_val (pe_callB call_inst (by rfl) T.inst PyProof.Rows.boot_isinstance (pa_cons (pv 0) (pa_cons (pe_bltn (v := .ty "str") (by rfl) T.t_str PyProof.Rows.boot_str rfl) pa_nil))))) (qss_one (qs_raise wish_def rfl (pe_makeX0 T.x_NoExpr T.i_NoExpr T.k_NoExpr (by rfl) T.c_NoExpr (pa_cons pe_str pa_nil)))) qss_nil)
      (qss_cons (qs_set (i := 1) scPReadExpr.nd rfl (Or.inl rfl) (pe_bm PySem.F.plainAttrs_str PySem.F.slot_str_split PySem.F.type_str_split mt_split (pv 0) (pa_cons pe_str pa_nil)))
      (qss_cons (qs_if (pt_cmpR op_eq (pe_op op_mod (pe_callB call_len_seq (by rfl) T.len PySem.boot_len (pa_cons (pv 1) pa_nil)) pe_int) pe_int (nomark _)) (qss_one (qs_raise wish_def rfl (pe_makeX0 T.x_NoExpr T.i_NoExpr T.k_NoExpr (by rfl) T.c_NoExpr (pa_cons pe_str pa_nil)))) qss_nil)
      (qss_cons (qs_if (pt_cmpR op_gt (pe_callB call_len_seq (by rfl) T.len PySem.boot_len (pa_cons (pv 1) pa_nil)) (pe_op op_sub (pe_op op_mul pe_int (pgl_int T.g_MOST_TERMS)) pe_int) (nomark _)) (qss_one (qs_raise wish_def rfl (pe_makeX0 T.x_NoExpr T.i_NoExpr T.k_NoExpr (by rfl) T.c_NoExpr (pa_cons pe_str pa_nil)))) qss_nil)
      (qss_cons (qs_set (i := 2) scPReadExpr.nd rfl (Or.inl rfl) (pe_lst (pa_cons (pcallXG A_read_term G_read_term hr4 wish_def (pa_cons pe_int (pa_cons (pe_ix ix_list (pv 1) pe_int (fun _ _ => rfl)) pa_nil))) pa_nil)))
      (qss_cons (qs_for PassesOwn.leaving rfl (pi_range3 (by rfl) T.range (pa_cons pe_int (pa_cons (pe_callB call_len_seq (by rfl) T.len PySem.boot_len (pa_cons (pv 1) pa_nil)) (pa_cons pe_int pa_nil)))) (pg_name (i := 3) scPReadExpr.nd rfl (Or.inl rfl))
      (qss_one (qs_expr (pe_bm PySem.F.plainAttrs_list PySem.F.slot_list_append PySem.F.type_list_append mt_append (pv 2) (pa_cons (pcallXG A_read_term G_read_term hr4 wish_def (pa_cons (pcallXG A_read_sign G_read_sign hr1 wish_def (pa_cons (pe_ix ix_list (pv 1) (pv 3) (fun _ _ => rfl)) pa_nil)) (pa_cons (pe_ix ix_list (pv 1) (pe_op op_add (pv 3) pe_int) (fun _ _ => rfl)) pa_nil))) pa_nil)))))
      (qss_one (qs_ret (pv 2))))))))), ?_⟩
    rcases h with ⟨z, rfl, hz, q, qx⟩ | ⟨⟨tt, ty, kt⟩, qx⟩
    case inr => exact ⟨_, rfl, _, _, _, _, rfl, ty, kt, _, rfl, iteT ⟨rfl, fun x hx => ⟨x, _, _, rfl, upd_same, T.x_NoExpr, qx.go hx⟩⟩⟩
    refine ⟨_, rfl, _, _, _, _, rfl, .str _, kit_same, _, rfl, iteF ?_⟩
    refine ⟨_, rfl, rfl, _, _, rfl, rfl, blanklen0, Nat.le_trans (show z.length + 2 ≤ 6002 by omega) (by decide), fun p hp => ?_⟩
    have hmem : ∀ w ∈ Txt.split z (" " : Str), w.length ≤ 6000 := fun w hw => Nat.le_trans (split_blank hw) hz
    generalize Txt.split z (" " : Str) = ws at q qx hmem
    have s1 : Same H (upd H p (.lst (ws.map V.str))) := Same.new hp
    have hp1 : upd H p (.lst (ws.map V.str)) p = some (.lst (ws.map V.str)) := upd_same
    generalize upd H p (.lst (ws.map V.str)) = H1 at s1 hp1
    refine ⟨_, rfl, p, _, rfl, .inl (SqL.of hp1), _, _, rfl, rfl, (by show (0 : Int) < 2; decide), rfl, _, rfl, iteVi (fun h => ?_) (fun ho => ?_)⟩
    · rw [List.length_map] at h
      exact ⟨rfl, fun x hx => ⟨x, _, _, rfl, upd_same, T.x_NoExpr, ((qx fun k => by have := (rdE_len k).1; omega).on s1).go hx⟩⟩
    rw [List.length_map] at ho
    refine ⟨_, rfl, p, _, rfl, .inl (SqL.of hp1), _, _, rfl, rfl, .inl ⟨by decide, by decide⟩, _, _, rfl, rfl, _, _, rfl, rfl, _, rfl, ite2d (fun h => ?_) (fun h11 => ?_)⟩
    · rw [List.length_map] at h
      exact ⟨rfl, fun x hx => ⟨x, _, _, rfl, upd_same, T.x_NoExpr, ((qx fun k => by have := (rdE_len k).2; omega).on s1).go hx⟩⟩
    rw [List.length_map] at h11
    obtain ⟨k, hk, hk5⟩ : ∃ k, ws.length = 2 * k + 1 ∧ k ≤ 5 := ⟨ws.length / 2, by omega, by omega⟩
    have hw0 : ws[0]? = some (ws[0]'(by omega)) := List.getElem?_eq_getElem (by omega)
    generalize ws[0]'(by omega) = w0 at hw0
    refine ⟨_, rfl, p, _, _, V.str w0, rfl, rfl, SqL.of hp1, atI_nat (j := 0) (by rw [List.getElem?_map, hw0]; rfl), 1, w0, rfl, hmem w0 (List.mem_of_getElem? hw0), fun th0 g0 e0 v0 H2 s2 hv0 => ⟨by show 1 ≤ sizeLine; decide, fun l hl => ?_⟩, fun b => (qx fun r => b (rdE_even r (i := 0) hw0)).on s1⟩
    have hfree : H l = none := s1.free (s2.free hl)
    have hp2 : H2 p = some (.lst (ws.map V.str)) := s2 _ _ hp1
    have hsize : Builtin.Range.rangeSize 1 ((ws.map V.str).length : Int) 2 = (k : Int) := by
      rw [List.length_map, hk]
      unfold Builtin.Range.rangeSize
      rw [if_pos (by decide)]
      split <;> omega
    refine ⟨_, rfl, p, _, rfl, .inl (SqL.of ((Same.new hl) _ _ hp2)), 1, _, 2, rfl, by decide, by decide, ?_, by rw [hsize]; omega, ?_⟩
    · rw [List.length_map]
      exact small_two (by omega)
    rw [hsize, Int.toNat_natCast]
    refine for_rangeS (fun i σ H' => ∃ v3 xs ts, σ = [some (.str z), some (.ref p), some (.ref l), v3] ∧ Same H2 H' ∧ H' l = some (.lst xs) ∧ xs.length = ts.length ∧ RdTo ws i ts ∧ ∀ (j : Nat) x, xs[j]? = some x → ∃ t, ts[j]? = some t ∧ TmAt H' x t)
      ⟨none, [v0], [⟨1, th0⟩], rfl, Same.new hl, upd_same, rfl, .first g0 (by rw [hw0, e0]), fun j x hj => ?_⟩ ?_ ?_
    · cases j with
      | zero => cases hj; exact ⟨_, rfl, hv0.same (Same.new hl)⟩
      | succ j => simp at hj
    · rintro i σ H3 hi ⟨v3, xs, ts, rfl, sm, h3l, hxl, rd, hx⟩
      have hw1 : ws[2 * i + 1]? = some (ws[2 * i + 1]'(by omega)) := List.getElem?_eq_getElem (by omega)
      have hw2 : ws[2 * i + 2]? = some (ws[2 * i + 2]'(by omega)) := List.getElem?_eq_getElem (by omega)
      generalize ws[2 * i + 1]'(by omega) = w1 at hw1
      generalize ws[2 * i + 2]'(by omega) = w2 at hw2
      have hp3 : H3 p = some (.lst (ws.map V.str)) := sm _ _ hp2
      have s03 : Same H H3 := s1.trans (s2.trans sm)
      have a1 : atI (ws.map V.str) (1 + (i : Nat) * 2) = some (V.str w1) := by
        have := atI_nat (xs := ws.map V.str) (j := 2 * i + 1) (v := V.str w1) (by rw [List.getElem?_map, hw1]; rfl)
        rwa [show (((2 * i + 1 : Nat)) : Int) = 1 + (i : Nat) * 2 from by omega] at this
      have a2 : atI (ws.map V.str) (1 + (i : Nat) * 2 + 1) = some (V.str w2) := by
        have := atI_nat (xs := ws.map V.str) (j := 2 * i + 2) (v := V.str w2) (by rw [List.getElem?_map, hw2]; rfl)
        rwa [show (((2 * i + 2 : Nat)) : Int) = 1 + (i : Nat) * 2 + 1 from by omega] at this
      refine ⟨_, rfl, .inl ⟨rfl, _, SqL.of h3l⟩, _, rfl, _, rfl, p, _, _, _, rfl, rfl, SqL.of hp3, a1, w1, rfl, fun s hs es H4 s4 => ?_, fun b => (qx fun r => b (rdE_odd r hw1)).on s03⟩
      refine ⟨_, rfl, _, rfl, _, _, rfl, rfl, p, _, _, _, rfl, rfl, SqL.of (s4 _ _ hp3), a2, s, w2, rfl, hmem w2 (List.mem_of_getElem? hw2), fun th g e v H5 s5 hv => ?_, fun b => (qx fun r => b (rdE_even r (i := i + 1) hw2)).on (s03.trans s4)⟩
      have s35 := s4.trans s5
      have h5l : H5 l = some (.lst xs) := s35 _ _ h3l
      have tl := rd.lo
      refine ⟨l, _, _, rfl, rfl, h5l, Nat.lt_of_lt_of_le (show xs.length < 1000 by omega) big1000, ?_⟩
      refine ⟨_, xs ++ [v], ts ++ [⟨s, th⟩], rfl, (sm.trans s35).over hl, upd_same, by rw [List.length_append, List.length_append, hxl]; rfl, rd.next hs g (by rw [hw1, es]) (by rw [hw2, e]), fun j x hj => ?_⟩
      by_cases hjx : j < xs.length
      · rw [List.getElem?_append_left hjx] at hj
        obtain ⟨t, ht, tm⟩ := hx j x hj
        exact ⟨t, by rw [List.getElem?_append_left (by omega)]; exact ht, (tm.same s35).upd h5l⟩
      · rw [List.getElem?_append_right (by omega)] at hj
        have hj0 : j = xs.length := by
          cases hh : j - xs.length with
          | zero => omega
          | succ k => rw [hh] at hj; simp at hj
        subst hj0
        rw [Nat.sub_self] at hj
        have : v = x := by simpa using hj
        subst this
        exact ⟨_, by rw [List.getElem?_append_right (by omega), hxl, Nat.sub_self]; rfl, TmAt.upd hv h5l⟩
    · rintro σ H3 ⟨v3, xs, ts, rfl, sm, h3l, hxl, rd, hx⟩
      obtain ⟨gs, ew⟩ := rd.all hk hk5
      exact ⟨_, rfl, q ts gs ew l H3 hfree (s1.trans (s2.trans sm)) ⟨xs, h3l, hxl, hx⟩⟩

theorem ok_law_term {C : Nat → Addr} (T : Tx K mg C) {f : Addr} {fd : FuncData} (F : Fun K "_law_term" "_law_term" s_law_term f fd) : FnOk P w K mg base CX0 3 f fd psTerm spTerm := by
  obtain ⟨f_law_pick, fd_law_pick, A_law_pick⟩ := T.a_law_pick
  have G_law_pick : FnOk P w K mg base CX0 1 f_law_pick fd_law_pick psPick spPick := ok_pick A_law_pick.F
  obtain ⟨f_law_name, fd_law_name, A_law_name⟩ := T.a_law_name
  have G_law_name : FnOk P w K mg base CX0 2 f_law_name fd_law_name psName spName := ok_name A_law_name.F A_law_pick T.range
  obtain ⟨f_law_sub, fd_law_sub, A_law_sub⟩ := T.a_law_sub
  have G_law_sub : FnOk P w K mg base CX0 1 f_law_sub fd_law_sub psSub spSub := ok_sub A_law_sub.F
  obtain ⟨f_law_number, fd_law_number, A_law_number⟩ := T.a_law_number
  have G_law_number : FnOk P w K mg base CX0 1 f_law_number fd_law_number psNumber spNumber := ok_number A_law_number.F
  refine F.ok scTerm (fun vs H Q E h => ?_) (fun cdv A outer s H vs Q E hr h => ?_)
  · obtain ⟨c, b, rfl, _⟩ := h
    rfl
  · obtain ⟨c, b, rfl, q⟩ := h
    have hr1 : Room 1 _ := hr.mono (by decide)
    have hr2 : Room 2 _ := hr
    refine ⟨_, QSs.h (qss_cons (qs_set (i := 2) scTerm.nd rfl (Or.inl rfl) (pe_ix ix_list (pe_lst (pa_cons pe_int (pa_cons (pe_op op_sub pe_int (pe_op op_mul pe_int (pcall A_law_pick G_law_pick hr1 (pa_cons (pv 0) (pa_cons pe_int (pa_cons pe_int pa_nil)))))) pa_nil))) (pe_callTy call_int1 (by rfl) T.t_int PyProof.Rows.boot_int (pa_cons (pe_not (pv 1)) pa_nil)) (fun _ _ => rfl)))
      (qss_cons (qs_set (i := 3) scTerm.nd rfl (Or.inl rfl) (pcall A_law_pick G_law_pick hr1 (pa_cons (pv 0) (pa_cons pe_int (pa_cons pe_int pa_nil)))))
      (qss_cons (qs_if (pt_cmpR op_eq (pv 3) pe_int (nomark _)) (qss_cons (qs_set (i := 4) scTerm.nd rfl (Or.inl rfl) (pe_ix ix_list (pe_lst (pa_cons pe_int (pa_cons pe_int (pa_cons (pe_op op_pow pe_int pe_int) (pa_cons (pe_op op_pow pe_int pe_int) pa_nil))))) (pcall A_law_pick G_law_pick hr1 (pa_cons (pv 0) (pa_cons pe_int (pa_cons pe_int pa_nil)))) (fun _ _ => rfl)))
      (qss_one (qs_ret (pe_tup (pa_cons (pv 2) (pa_cons pe_str (pa_cons (pe_ix ix_list (pe_lst (pa_cons (pcall A_law_number G_law_number hr1 (pa_cons (pv 0) (pa_cons (pv 4) pa_nil))) (pa_cons pe_int (pa_cons (pe_op op_sub (pv 4) pe_int) pa_nil)))) (pcall A_law_pick G_law_pick hr1 (pa_cons (pv 0) (pa_cons pe_int (pa_cons pe_int pa_nil)))) (fun _ _ => rfl)) pa_nil))))))) qss_nil)
      (qss_cons (qs_comp (N := ["_law_j", "_law_cell_here"]) [none, some 0] (i := 5) scTerm.nd rfl (Or.inl rfl) rfl (by kernel_rfl) (pi_range1 (by rfl) T.range (pa_cons (pe_op op_add pe_int (pcall A_law_pick G_law_pick hr1 (pa_cons (pv 0) (pa_cons pe_int (pa_cons pe_int pa_nil))))) pa_nil)) (fun cl C fp s H => (pg_name (i := 0) (by decide +kernel : (["_law_j", "_law_cell_here"] : List Str).Nodup) rfl (Or.inl rfl))) (fun cl C fp s H => pf_nil) (fun cl C fp s H => (pcall A_law_name G_law_name hr2 (pa_cons (pcall A_law_sub G_law_sub hr1 (pa_cons (pv 1) (pa_cons (pv 0) pa_nil))) pa_nil))))
      (qss_one (qs_ret (pe_tup (pa_cons (pv 2) (pa_cons (pe_ix ix_list (pe_lst (pa_cons pe_str (pa_cons pe_str pa_nil))) (pe_callTy call_int1 (by rfl) T.t_int PyProof.Rows.boot_int (pa_cons (pe_cmpR op_eq (pv 3) pe_int (nomark _)) pa_nil)) (fun _ _ => rfl)) (pa_cons (pe_callTy call_tuple_of (by rfl) T.t_tuple PyProof.Rows.boot_tuple (pa_cons (pv 5) pa_nil)) pa_nil)))))))))), ?_⟩
    have k1 := pick_ge c 1 (m := 2) (by decide)
    have k2 := pick_lt c 1 (m := 2) (by decide)
    refine ⟨_, rfl, c, 1, 2, rfl, by decide, by decide, by decide, fun H1 s1 => ⟨_, _, rfl, rfl, .inl ⟨by decide, by decide⟩, _, _, rfl, rfl, by show 2 ≤ sizeLine; decide, fun p hp => ?_⟩⟩
    have hat : atI [V.int 1, V.int (1 - 2 * pick c 1 2)] (if (!b) = true then 1 else 0) = some (V.int (if b = true then 1 else 1 - 2 * pick c 1 2)) := by cases b <;> rfl
    refine ⟨_, rfl, _, rfl, .inr ⟨_, rfl, p, _, _, _, rfl, rfl, SqL.of upd_same, hat, ?_⟩⟩
    have hsg : (if b = true then (1 : Int) else 1 - 2 * pick c 1 2) = 1 ∨ (if b = true then (1 : Int) else 1 - 2 * pick c 1 2) = -1 := by split <;> omega
    have hfst : b = true → (if b = true then (1 : Int) else 1 - 2 * pick c 1 2) = 1 := fun e => if_pos e
    generalize (if b = true then (1 : Int) else 1 - 2 * pick c 1 2) = sg at hsg hfst
    have s2 : Same H (upd H1 p (.lst [V.int 1, V.int (1 - 2 * pick c 1 2)])) := s1.put hp
    generalize upd H1 p (.lst [V.int 1, V.int (1 - 2 * pick c 1 2)]) = H2 at s2
    refine ⟨_, rfl, c, 2, 4, rfl, by decide, by decide, by decide, fun H3 s3 => ?_⟩
    generalize pick c 2 4 = way
    refine ⟨_, rfl, rfl, _, rfl, iteVi (fun _ => ?_) (fun _ => ?_)⟩
    · refine ⟨_, _, rfl, rfl, ⟨by decide, by decide, by decide⟩, _, _, rfl, rfl, ⟨by decide, by decide, by decide⟩, by show 4 ≤ sizeLine; decide, fun p2 hp2 => ?_⟩
      obtain ⟨fv, hfat, hfm⟩ := atI_mem (xs := [V.int 10, V.int 1000, V.int (10 ^ (10 : Int).toNat), V.int (10 ^ (20 : Int).toNat)]) (c := c) (k := 3) (Nat.succ_pos _)
      have hfar : ∃ far : Int, fv = .int far ∧ 0 < far ∧ far ≤ 10 ^ 20 := by
        simp only [List.mem_cons, List.not_mem_nil, or_false] at hfm
        rcases hfm with rfl | rfl | rfl | rfl
        · exact ⟨_, rfl, by decide, by decide⟩
        · exact ⟨_, rfl, by decide, by decide⟩
        · exact ⟨_, rfl, by decide, by decide⟩
        · exact ⟨_, rfl, by decide, by decide⟩
      obtain ⟨far, rfl, f0, f1⟩ := hfar
      refine ⟨_, rfl, c, 3, 4, rfl, by decide, by decide, by decide, fun H4 s4 => ⟨p2, _, _, V.int far, rfl, rfl, SqL.of (s4 _ _ upd_same), hfat, ?_⟩⟩
      have s24 : Same H H4 := s2.trans (s3.trans ((Same.new hp2).trans s4))
      refine ⟨_, rfl, _, rfl, _, rfl, c, far, rfl, f0, fun H5 s5 => ⟨_, rfl, _, _, rfl, rfl, by show 3 ≤ sizeLine; decide, fun p3 hp3 => ?_⟩⟩
      have n0 := number_ge c f0
      have n1 := number_lt c f0
      obtain ⟨nv, hnat, hnm⟩ := atI_mem (xs := [V.int (number c far), V.int 0, V.int (far - 1)]) (c := c) (k := 4) (Nat.succ_pos _)
      have hnum : ∃ m : Nat, nv = .int ((m : Nat) : Int) ∧ m < 10 ^ 20 := by
        have key : ∀ n : Int, 0 ≤ n → n < far → ∃ m : Nat, V.int n = .int ((m : Nat) : Int) ∧ m < 10 ^ 20 := fun n h0 h1 => by
          obtain ⟨m, rfl⟩ := Int.eq_ofNat_of_zero_le h0
          exact ⟨m, rfl, by omega⟩
        simp only [List.mem_cons, List.not_mem_nil, or_false] at hnm
        rcases hnm with rfl | rfl | rfl
        · exact key _ n0 n1
        · exact key 0 (by omega) f0
        · exact key (far - 1) (by omega) (by omega)
      obtain ⟨m, rfl, hm⟩ := hnum
      refine ⟨_, rfl, c, 4, 3, rfl, by decide, by decide, by decide, fun H6 s6 => ⟨p3, _, _, V.int ((m : Nat) : Int), rfl, rfl, SqL.of (s6 _ _ upd_same), hnat, by show 3 ≤ sizeLine; decide, fun p4 hp4 => ?_⟩⟩
      exact q _ _ ⟨sg, .num m⟩ ((s24.trans (s5.trans ((Same.new hp3).trans s6))).put hp4) ⟨hsg, hm⟩ hfst ⟨p4, _, rfl, upd_same, rfl⟩
    · have m1 := pick_ge c 5 (m := 4) (by decide)
      have m2 := pick_lt c 5 (m := 4) (by decide)
      refine ⟨_, rfl, c, 5, 4, rfl, by decide, by decide, by decide, fun H4 s4 => ?_⟩
      refine ⟨_, _, rfl, rfl, _, rfl, by omega, by omega, ?_⟩
      refine comp_range (fun j => V.str (name (sub c (0 + (j : Int))))) (Nat.le_trans (show (1 + pick c 5 4).toNat ≤ 8 by omega) (by decide)) (fun j H' Q' hj sm' k' => ?_) (fun τ H Q Q' hh h => hh _ _ h) (fun H5 s5 d hd5 => ?_)
      · have hj' : j < (1 + pick c 5 4).toNat := hj
        refine ⟨rfl, ?_⟩
        exact ⟨_, rfl, _, rfl, c, 0 + (j : Int), rfl, by omega, by omega, fun H6 s6 => ⟨_, rfl, fun H7 s7 => k' H7 (s6.trans s7)⟩⟩
      · have e1 : (List.range (1 + pick c 5 4).toNat).map (fun (j : Nat) => V.str (name (sub c (0 + (j : Int))))) = ((List.range (1 + pick c 5 4).toNat).map fun (j : Nat) => name (sub c (0 + (j : Int)))).map V.str := by rw [List.map_map]; rfl
        rw [e1]
        have hgn : GoodN ((List.range (1 + pick c 5 4).toNat).map fun (j : Nat) => name (sub c (0 + (j : Int)))) := by
          refine ⟨fun z => ?_, by rw [List.length_map, List.length_range]; omega, fun y hy => ?_⟩
          · have := congrArg List.length z
            rw [List.length_map, List.length_range] at this
            simp at this
            omega
          · obtain ⟨j, _, rfl⟩ := List.mem_map.mp hy
            exact isNm_name _
        generalize ((List.range (1 + pick c 5 4).toNat).map fun (j : Nat) => name (sub c (0 + (j : Int)))) = ys at hgn
        have s6 : Same H (upd H5 d (.lst (ys.map V.str))) := (s2.trans (s3.trans (s4.trans s5))).put hd5
        have hdd : upd H5 d (.lst (ys.map V.str)) d = some (.lst (ys.map V.str)) := upd_same
        generalize upd H5 d (.lst (ys.map V.str)) = H6 at s6 hdd
        refine ⟨_, rfl, by show 2 ≤ sizeLine; decide, fun p2 hp2 => ?_⟩
        have hkat : atI [V.str "path", V.str "call"] (if decide (V.int way = V.int 3) = true then 1 else 0) = some (V.str (kindOf (.nms (decide (V.int way = V.int 3)) ys))) := by cases decide (V.int way = V.int 3) <;> rfl
        refine ⟨_, rfl, rfl, .inr ⟨_, rfl, p2, _, _, _, rfl, rfl, SqL.of upd_same, hkat, ?_⟩⟩
        refine ⟨_, rfl, d, _, rfl, .inl ⟨SqL.of ((Same.new hp2) _ _ hdd), fun p3 hp3 => ⟨by show 3 ≤ sizeLine; decide, fun p4 hp4 => ?_⟩⟩⟩
        refine q _ _ ⟨sg, .nms (decide (V.int way = V.int 3)) ys⟩ (((s6.put hp2).put hp3).put hp4) ⟨hsg, hgn⟩ hfst ⟨p4, _, rfl, upd_same, p3, rfl, ?_⟩
        exact (Same.new hp4) _ _ upd_same

theorem ok_law_terms {C : Nat → Addr} (T : Tx K mg C) {f : Addr} {fd : FuncData} (F : Fun K "_law_terms" "_law_terms" s_law_terms f fd) : FnOk P w K mg base CX0 4 f fd psTerms spTerms := by
  obtain ⟨f_law_term, fd_law_term, A_law_term⟩ := T.a_law_term
  have G_law_term : FnOk P w K mg base CX0 3 f_law_term fd_law_term psTerm spTerm := ok_law_term T A_law_term.F
  obtain ⟨f_law_sub, fd_law_sub, A_law_sub⟩ := T.a_law_sub
  have G_law_sub : FnOk P w K mg base CX0 1 f_law_sub fd_law_sub psSub spSub := ok_sub A_law_sub.F
  obtain ⟨f_law_pick, fd_law_pick, A_law_pick⟩ := T.a_law_pick
  have G_law_pick : FnOk P w K mg base CX0 1 f_law_pick fd_law_pick psPick spPick := ok_pick A_law_pick.F
  refine F.ok scTerms (fun vs H Q E h => ?_) (fun cdv A outer s H vs Q E hr h => ?_)
  · obtain ⟨c, rfl, _⟩ := h
    rfl
  · obtain ⟨c, rfl, q⟩ := h
    have hr1 : Room 1 _ := hr.mono (by decide)
    have hr3 : Room 3 _ := hr
    refine ⟨_, QSs.h (qss_one (qs_ret (pe_comp (N := ["_law_k", "_law_cell_here"]) [none, some 0] rfl (by kernel_rfl) (pi_range1 (by rfl) T.range (pa_cons (pe_op op_add pe_int (pcall A_law_pick G_law_pick hr1 (pa_cons (pv 0) (pa_cons pe_int (pa_cons pe_int pa_nil))))) pa_nil)) (fun cl C fp s H => (pg_name (i := 0) (by decide +kernel : (["_law_k", "_law_cell_here"] : List Str).Nodup) rfl (Or.inl rfl))) (fun cl C fp s H => pf_nil) (fun cl C fp s H => (pcall A_law_term G_law_term hr3 (pa_cons (pcall A_law_sub G_law_sub hr1 (pa_cons (pv 1) (pa_cons (pe_op op_add pe_int (pe_op op_mul pe_int (pv 0))) pa_nil))) (pa_cons (pe_cmpR op_eq (pv 0) pe_int (nomark _)) pa_nil))))))), ?_⟩
    have m1 := pick_ge c 0 (m := 6) (by decide)
    have m2 := pick_lt c 0 (m := 6) (by decide)
    refine ⟨_, rfl, c, 0, 6, rfl, by decide, by decide, by decide, fun H1 s1 => ?_⟩
    refine ⟨_, _, rfl, rfl, _, rfl, by omega, by omega, ?_⟩
    refine comp_rangeP (fun i v H' => ∃ t, GoodT t ∧ (i = 0 → t.sg = 1) ∧ TmAt H' v t) (fun i v H' H'' ⟨t, a, b, d⟩ s => ⟨t, a, b, d.same s⟩) (Nat.le_trans (show (1 + pick c 0 6).toNat ≤ 8 by omega) (by decide)) (fun i H' Q' hi sm k' => ?_) (fun xs H2 s2 hl hx p hp => ?_)
    · have hi' : i < (1 + pick c 0 6).toNat := hi
      refine ⟨_, rfl, _, rfl, _, _, rfl, rfl, .inl ⟨by decide, by decide⟩, _, _, rfl, rfl, c, 1 + 5 * (0 + (i : Int)), rfl, by omega, by omega, fun H3 s3 => ?_⟩
      refine ⟨_, rfl, rfl, _, _, rfl, fun v H4 t s4 gt g0 tm => ?_⟩
      refine k' v H4 (s3.trans s4) ⟨t, gt, fun e => g0 (decide_eq_true ?_), tm⟩
      subst e
      rfl
    · obtain ⟨ts, htl, hts⟩ := choose_list (fun i v t => GoodT t ∧ (i = 0 → t.sg = 1) ∧ TmAt H2 v t) xs 0 (fun i v e => by rw [Nat.zero_add]; exact hx i v e)
      have back : ∀ (i : Nat) t, ts[i]? = some t → ∃ v, xs[i]? = some v := fun i t e => by
        have hi := (List.getElem?_eq_some_iff.mp e).1
        exact ⟨xs[i]'(by omega), List.getElem?_eq_getElem (by omega)⟩
      refine q p _ ts ((s1.trans s2).put hp) ⟨fun z => ?_, by omega, fun t ht => ?_, fun t ht => ?_⟩ ⟨xs, upd_same, htl.symm, fun i x e => ?_⟩
      · rw [z] at htl; simp at htl; omega
      · obtain ⟨i, hi, e⟩ := List.getElem_of_mem ht
        have e' : ts[i]? = some t := by rw [List.getElem?_eq_getElem hi, e]
        obtain ⟨v, hv⟩ := back i t e'
        obtain ⟨t', et, gt, _⟩ := hts i v hv
        rw [e'] at et; cases et
        exact gt
      · have e' : ts[0]? = some t := by rw [← List.head?_eq_getElem?]; exact ht
        obtain ⟨v, hv⟩ := back 0 t e'
        obtain ⟨t', et, _, g0, _⟩ := hts 0 v hv
        rw [e'] at et; cases et
        exact g0 rfl
      · obtain ⟨t, et, _, _, tm⟩ := hts i x e
        exact ⟨t, et, tm.same (Same.new hp)⟩

theorem ok_law_word {C : Nat → Addr} (T : Tx K mg C) {f : Addr} {fd : FuncData} (F : Fun K "_law_word" "_law_word" s_law_word f fd) : FnOk P w K mg base CX0 1 f fd psWord spWord := by
  refine F.ok scWord (fun vs H Q E h => ?_) (fun cdv A outer s H vs Q E hr h => ?_)
  · obtain ⟨v, t, rfl, _⟩ := h
    rfl
  · obtain ⟨v, t, rfl, tm, gt, q⟩ := h
    refine ⟨_, QSs.h (qss_cons (qs_asg (pv 0) (pg_tupK (K := K) (n := 3) rfl hr.hd (pgs_cons (pg_name (i := 1) scWord.nd rfl (Or.inl rfl)) (pgs_cons (pg_name (i := 2) scWord.nd rfl (Or.inl rfl)) (pgs_cons (pg_name (i := 3) scWord.nd rfl (Or.inl rfl)) pgs_nil)))))
      (qss_cons (qs_if (pt_cmpR op_eq (pv 2) pe_str (nomark _)) (qss_one (qs_ret (pe_callTy call_str_int (by rfl) T.t_str PyProof.Rows.boot_str (pa_cons (pv 3) pa_nil)))) qss_nil)
      (qss_one (qs_ret (pe_op op_add_str (pe_bm PySem.F.plainAttrs_str PySem.F.slot_str_join PySem.F.type_str_join mt_join pe_str (pa_cons (pv 3) pa_nil)) (pe_op op_rep_str pe_str (pe_callTy call_int1 (by rfl) T.t_int PyProof.Rows.boot_int (pa_cons (pe_cmpR op_eq (pv 2) pe_str (nomark _)) pa_nil)))))))), ?_⟩
    obtain ⟨p, x, rfl, hp, hx⟩ := tm
    refine ⟨_, rfl, p, _, rfl, SqT.of hp, rfl, _, _, rfl, _, _, rfl, _, _, rfl, rfl, ?_⟩
    have gth := gt.th
    have q0 := q H (Same.refl H)
    generalize t.th = th at hx gth q0 hp
    cases th with
    | num m =>
      cases hx
      exact ⟨_, rfl, rfl, _, rfl, iteTb (decide_eq_true (show V.str (kindOf (.num m)) = V.str "number" from rfl)) ⟨_, rfl, _, rfl, log2_small gth, q0⟩⟩
    | nms c ys =>
      have gn : GoodN ys := gth
      obtain ⟨r, rfl, hr'⟩ := hx
      have hkn : ¬ V.str (kindOf (.nms c ys)) = V.str "number" := by
        cases c
        · show ¬ V.str "path" = V.str "number"; decide +kernel
        · show ¬ V.str "call" = V.str "number"; decide +kernel
      refine ⟨_, rfl, rfl, _, rfl, iteFb (decide_eq_false hkn) ?_⟩
      have hs : (ys.map (·.length)).sum ≤ ys.length * 8 := sum_le fun y hy => (gn.nm y hy).hi
      have h4 := gn.hi
      have hdl := gn.len
      refine ⟨rfl, _, rfl, _, r, ys, rfl, rfl, .inr (SqT.of hr'), by rw [dotlen]; omega, ?_⟩
      have hk : decide (V.str (kindOf (.nms c ys)) = V.str "call") = c := by
        cases c
        · exact decide_eq_false (by show ¬ V.str "path" = V.str "call"; decide +kernel)
        · exact decide_eq_true rfl
      refine ⟨_, rfl, rfl, .inr ⟨_, rfl, brk, _, rfl, rfl, mul_brk_ok _, _, _, rfl, rfl, ?_, ?_⟩⟩
      · rw [mul_brk]
        have : (dotted ys).length + (if decide (V.str (kindOf (.nms c ys)) = V.str "call") = true then brk else Str.empty).length ≤ 1000 := by
          split
          · rw [brk_len]; omega
          · show (dotted ys).length + 0 ≤ 1000; omega
        exact Nat.le_trans this big1000
      · show Q (.str (dotted ys ++ Txt.mul brk (if decide (V.str (kindOf (.nms c ys)) = V.str "call") = true then 1 else 0))) H
        rw [mul_brk, hk]
        cases c with
        | true => exact q0
        | false =>
          rw [if_neg (by decide), app_empty]
          exact q0

theorem ok_law_text {C : Nat → Addr} (T : Tx K mg C) {f : Addr} {fd : FuncData} (F : Fun K "_law_text" "_law_text" s_law_text f fd) : FnOk P w K mg base CX0 2 f fd psText spText := by
  obtain ⟨f_law_word, fd_law_word, A_law_word⟩ := T.a_law_word
  have G_law_word : FnOk P w K mg base CX0 1 f_law_word fd_law_word psWord spWord := ok_law_word T A_law_word.F
  refine F.ok scText (fun vs H Q E h => ?_) (fun cdv A outer s H vs Q E hr h => ?_)
  · obtain ⟨l, ts, rfl, _⟩ := h
    rfl
  · obtain ⟨l, ts, rfl, ⟨xs, hl, hxl, hx⟩, hg, q⟩ := h
    have hr1 : Room 1 _ := hr
    refine ⟨_, QSs.h (qss_cons (qs_set (i := 1) scText.nd rfl (Or.inl rfl) (pcall A_law_word G_law_word hr1 (pa_cons (pe_ix ix_list (pv 0) pe_int (fun _ _ => rfl)) pa_nil)))
      (qss_cons (qs_for PassesOwn.never rfl (pi_list (pe_slice sl_list (pv 0) (po_some pe_int) po_none)) (pg_name (i := 2) scText.nd rfl (Or.inl rfl))
      (qss_one (qs_set (i := 1) scText.nd rfl (Or.inl rfl) (pe_op op_add_str (pe_op op_add_str (pv 1) (pe_ix ix_list (pe_lst (pa_cons pe_str (pa_cons pe_str pa_nil))) (pe_callTy call_int1 (by rfl) T.t_int PyProof.Rows.boot_int (pa_cons (pe_cmpR op_eq (pe_ix ix_tup (pv 2) pe_int (fun _ _ => rfl)) pe_int (nomark _)) pa_nil)) (fun _ _ => rfl))) (pcall A_law_word G_law_word hr1 (pa_cons (pv 2) pa_nil))))))
      (qss_one (qs_ret (pv 1))))), ?_⟩
    cases ts with
    | nil => exact absurd rfl hg.lo
    | cons t0 tr =>
    cases xs with
    | nil => simp at hxl
    | cons x0 xr =>
    obtain ⟨t0', e0, tm0⟩ := hx 0 x0 rfl
    cases e0
    have h6 := hg.hi
    have hll : xr.length = tr.length := by simpa using hxl
    refine ⟨_, rfl, l, _, _, x0, rfl, rfl, SqL.of hl, atI_nat (j := 0) rfl, x0, t0, rfl, tm0, hg.ok t0 List.mem_cons_self, fun H1 s1 => ?_⟩
    refine ⟨_, rfl, _, rfl, l, _, rfl, SqL.of (s1 _ _ hl), fun p hp => ?_⟩
    rw [cut_drop]
    have s2 : Same H (upd H1 p (.lst (List.drop 1 (x0 :: xr)))) := s1.put hp
    refine ⟨p, rfl, ⟨_, SqL.of upd_same⟩, ?_⟩
    have hp2' : upd H1 p (.lst (List.drop 1 (x0 :: xr))) p = some (.lst xr) := upd_same
    generalize upd H1 p (.lst (List.drop 1 (x0 :: xr))) = H2 at s2 hp2'
    refine for_list (xs := xr) (fun i σ H' => ∃ v2, σ = [some (.ref l), some (.str (textOf ((t0 :: tr).take (i + 1)))), v2] ∧ Same H2 H') ⟨none, rfl, Same.refl _⟩ ?_ ?_ ?_
    · rintro i σ H' _ ⟨v2, rfl, sm⟩
      exact SqL.of (sm _ _ hp2')
    · rintro i x σ H3 hxi ⟨v2, rfl, sm⟩
      obtain ⟨t, et, tm⟩ := hx (i + 1) x (by simpa using hxi)
      have gt : GoodT t := hg.ok t (List.mem_of_getElem? et)
      have tm3 : TmAt H3 x t := tm.same (s2.trans sm)
      obtain ⟨a, y, rfl, ha, hy⟩ := id tm3
      have wl := word_len gt.th
      have tl := textOf_len (ts := (t0 :: tr).take (i + 1)) fun t ht => hg.ok t (List.mem_of_mem_take ht)
      have tll : ((t0 :: tr).take (i + 1)).length ≤ 6 := by rw [List.length_take]; omega
      have gl := gap_len t.sg
      have hgat : atI [V.str " - ", V.str " + "] (if decide (V.int t.sg = V.int 1) = true then 1 else 0) = some (V.str (gap t.sg)) := by
        unfold gap
        by_cases h : t.sg = 1
        · rw [decide_eq_true (congrArg V.int h), if_pos h]; rfl
        · rw [decide_eq_false (fun e => h (V.int.inj e)), if_neg h]; rfl
      refine ⟨_, rfl, by show 2 ≤ sizeLine; decide, fun b hb => ?_⟩
      refine ⟨_, rfl, a, _, _, V.int t.sg, rfl, rfl, SqT.of ((Same.new hb) _ _ ha), rfl, rfl, .inr ⟨_, rfl, b, _, _, _, rfl, rfl, SqL.of upd_same, hgat, ?_⟩⟩
      refine ⟨_, _, rfl, rfl, Nat.le_trans (show _ ≤ 1000 by omega) big1000, _, rfl, _, t, rfl, tm3.same (Same.new hb), gt, fun H4 s4 => ?_⟩
      refine ⟨_, _, rfl, rfl, Nat.le_trans (show _ ≤ 1000 by rw [appLen]; omega) big1000, ?_⟩
      refine ⟨some (V.ref a), ?_, sm.trans ((Same.new hb).trans s4)⟩
      have e3 : textOf ((t0 :: tr).take (i + 1 + 1)) = textOf ((t0 :: tr).take (i + 1)) ++ gap t.sg ++ wordOf t.th := by
        rw [List.take_add_one (i := i + 1), et]
        exact textOf_snoc t (by simp)
      rw [e3]
      rfl
    · rintro σ H3 ⟨v2, rfl, sm⟩
      have e : (t0 :: tr).take (xr.length + 1) = t0 :: tr := List.take_of_length_le (by simp; omega)
      have q' := q H3 (s2.trans sm)
      rw [← e] at q'
      exact ⟨_, rfl, q'⟩

theorem ok_law_is_name {C : Nat → Addr} (T : Tx K mg C) {f : Addr} {fd : FuncData} (F : Fun K "_law_is_name" "_law_is_name" s_law_is_name f fd) : FnOk P w K mg base CX0 1 f fd psIsName spIsN6 := by
  refine F.ok scIsName (fun vs H Q E h => ?_) (fun cdv A outer s H vs Q E hr h => ?_)
  · obtain ⟨z, rfl, _⟩ := h
    rfl
  · obtain ⟨z, rfl, hz, q⟩ := h
    refine ⟨_, QSs.h (qss_cons (qs_for PassesOwn.never rfl (pi_str (pv 0)) (pg_name (i := 1) scIsName.nd rfl (Or.inl rfl))
      (qss_one (qs_if (pt_cmpR op_notin_str (pv 1) pe_str (by rfl)) (qss_one (qs_ret pe_bl)) qss_nil)))
      (qss_one (qs_ret (pe_chain op_le op_le pe_int (pe_callB call_len_str (by rfl) T.len PySem.boot_len (pa_cons (pv 0) pa_nil)) pe_int)))), ?_⟩
    have hz' : z.length ≤ sizeLine := Nat.le_trans hz (by decide)
    refine ⟨_, rfl, z, rfl, ?_⟩
    refine for_str (fun i σ H2 => ∃ v, σ = [some (.str z), v] ∧ H2 = H ∧ (z.cps.toList.take i).all inL = true) ⟨none, rfl, rfl, rfl⟩ ?_ ?_
    · rintro i ch σ H2 hc ⟨v, rfl, rfl, hal⟩
      refine ⟨_, rfl, _, _, rfl, rfl, _, rfl, ?_⟩
      show if (!inL ch) = true then _ else _
      cases hi : inL ch with
      | false =>
        refine iteT ?_
        have e : nmB z = false := by
          unfold nmB
          have : z.cps.toList.all inL = false := by
            rw [List.all_eq_false]
            exact ⟨ch, List.mem_of_getElem? hc, by rw [hi]; decide⟩
          rw [this, Bool.and_false]
        have q' := q H2 (Same.refl H2)
        rw [e] at q'
        exact q'
      | true =>
        refine iteF ⟨_, rfl, rfl, ?_⟩
        rw [List.take_add_one, hc, List.all_append, hal]
        show (true && (inL ch && true)) = true
        rw [hi]; rfl
    · rintro σ H2 ⟨v, rfl, rfl, hal⟩
      have hz2 : z.cps.size = z.cps.toList.length := by simp
      rw [hz2, List.take_length] at hal
      have q' := q H2 (Same.refl H2)
      unfold nmB at q'
      rw [hal, Bool.and_true] at q'
      refine ⟨_, rfl, _, rfl, hz', _, _, rfl, rfl, _, rfl, ite2d (fun h1 => ⟨_, _, rfl, rfl, ?_⟩) (fun h1 => ?_)⟩
      · rw [decide_eq_true (show 1 ≤ z.length by omega), Bool.true_and] at q'
        have e : decide ((z.length : Int) ≤ 8) = decide (z.length ≤ 8) := by
          by_cases h : z.length ≤ 8
          · rw [decide_eq_true h, decide_eq_true (by omega)]
          · rw [decide_eq_false h, decide_eq_false (by omega)]
        rw [← e] at q'
        exact q'
      · rw [decide_eq_false (show ¬ 1 ≤ z.length by omega), Bool.false_and] at q'
        exact q'

theorem ok_law_read_word {C : Nat → Addr} (T : Tx K mg C) {f : Addr} {fd : FuncData} (F : Fun K "_law_read_word" "_law_read_word" s_law_read_word f fd) : FnOk P w K mg base CX0 2 f fd psReadWord spLW6 := by
  obtain ⟨f_law_is_name, fd_law_is_name, A_law_is_name⟩ := T.a_law_is_name
  have G_law_is_name : FnOk P w K mg base CX0 1 f_law_is_name fd_law_is_name psIsName spIsN6 := ok_law_is_name T A_law_is_name.F
  refine F.ok scReadWord (fun vs H Q E h => ?_) (fun cdv A outer s H vs Q E hr h => ?_)
  · obtain ⟨z, sg, rfl, _⟩ := h
    rfl
  · obtain ⟨z, sg, rfl, hz, q, qn⟩ := h
    have hr1 : Room 1 _ := hr
    refine ⟨_, QSs.h (qss_cons (qs_set (i := 2) scReadWord.nd rfl (Or.inl rfl) (pe_callB call_len_seq (by rfl) T.len PySem.boot_len (pa_cons (pe_comp (N := ["_law_one"]) [none] rfl (by kernel_rfl) (pi_str (pv 0)) (fun cl C fp s H => (pg_name (i := 0) (by decide +kernel : (["_law_one"] : List Str).Nodup) rfl (Or.inl rfl))) (fun cl C fp s H => (pf_one (pt_cmpR op_in_str (pv 0) pe_str (by rfl)))) (fun cl C fp s H => (pv 0))) pa_nil)))
      (qss_cons (qs_if (PW.pt (pw_and (pt_cmpR op_ne (pv 0) pe_str (nomark _)) (pw_and1 (pt_cmpR op_eq (pv 2) (pe_callB call_len_str (by rfl) T.len PySem.boot_len (pa_cons (pv 0) pa_nil)) (nomark _))))) (qss_cons (qs_if (PW.pt (pw_or (pt_cmpR op_gt (pe_callB call_len_str (by rfl) T.len PySem.boot_len (pa_cons (pv 0) pa_nil)) pe_int (nomark _)) (pw_or1 (PW.pt (pw_and (pt_cmpR op_eq (pe_ix ix_str (pv 0) pe_int (fun _ _ => rfl)) pe_str (nomark _)) (pw_and1 (pt_cmpR op_gt (pe_callB call_len_str (by rfl) T.len PySem.boot_len (pa_cons (pv 0) pa_nil)) pe_int (nomark _)))))))) (qss_one (qs_ret pe_non)) qss_nil)
      (qss_one (qs_ret (pe_tup (pa_cons (pv 1) (pa_cons pe_str (pa_cons (pe_callTy call_int_str (by rfl) T.t_int PyProof.Rows.boot_int (pa_cons (pv 0) pa_nil)) pa_nil))))))) qss_nil)
      (qss_cons (qs_set (i := 3) scReadWord.nd rfl (Or.inl rfl) pe_str)
      (qss_cons (qs_if (pt_cmpR op_eq (pe_slice sl_str (pv 0) (po_some (pe_un un_neg pe_int)) po_none) pe_str (nomark _)) (qss_cons (qs_set (i := 3) scReadWord.nd rfl (Or.inl rfl) pe_str)
      (qss_one (qs_set (i := 0) scReadWord.nd rfl (Or.inl rfl) (pe_slice sl_str (pv 0) po_none (po_some (pe_un un_neg pe_int)))))) qss_nil)
      (qss_cons (qs_set (i := 4) scReadWord.nd rfl (Or.inl rfl) (pe_bm PySem.F.plainAttrs_str PySem.F.slot_str_split PySem.F.type_str_split mt_split (pv 0) (pa_cons pe_str pa_nil)))
      (qss_cons (qs_if (PW.pt (pw_or (pt_cmpR op_gt (pe_callB call_len_seq (by rfl) T.len PySem.boot_len (pa_cons (pv 4) pa_nil)) pe_int (nomark _)) (pw_or1 (pt_not (pt_val (pe_callB (call_all rfl) (by rfl) T.all PyProof.Rows.boot_all (pa_cons (pe_comp (N := ["_law_name_here"]) [none] rfl (by kernel_rfl) (pi_list (pv 4)) (fun cl C fp s H => (pg_name (i := 0) (by decide +kernel : (["_law_name_here"] : List Str).Nodup) rfl (Or.inl rfl))) (fun cl C fp s H => pf_nil) (fun cl C fp s H => (pcall A_law_is_name G_law_is_name hr1 (pa_cons (pv 0) pa_nil)))) pa_nil))))))) (qss_one (qs_ret pe_non)) qss_nil)
      (qss_one (qs_ret (pe_tup (pa_cons (pv 1) (pa_cons (pv 3) (pa_cons (pe_callTy call_tuple_of (by rfl) T.t_tuple PyProof.Rows.boot_tuple (pa_cons (pv 4) pa_nil)) pa_nil)))))))))))), ?_⟩
    have hz' : z.length ≤ sizeLine := Nat.le_trans hz (by decide)
    refine ⟨_, rfl, z, rfl, ?_⟩
    refine comp_strF inF (fun c => V.str ⟨#[c]⟩) hz' (fun c H' Q' sm k' => ?_) (fun c H' Q' hc sm k' => ?_) (fun H' sm p hp => ?_)
    · exact ⟨_, rfl, _, _, rfl, rfl, _, rfl, k'⟩
    · exact ⟨_, rfl, k' _ (Same.refl _)⟩
    refine ⟨p, _, rfl, .inl (SqL.of upd_same), ?_⟩
    have s1 := sm.put hp (o := .lst ((z.cps.toList.filter inF).map fun c => V.str ⟨#[c]⟩))
    generalize upd H' p (.lst ((z.cps.toList.filter inF).map fun c => V.str ⟨#[c]⟩)) = H1 at s1
    rw [List.length_map]
    refine ⟨_, rfl, rfl, _, rfl, ?_⟩
    by_cases e0 : z = ""
    · have en : numB z = false := by rw [e0]; decide +kernel
      refine iteFb (by rw [e0]; rfl) (iteF ?_)
      refine ⟨_, rfl, _, rfl, _, rfl, z, rfl, hz', rfl, _, rfl, ?_⟩
      cases ee : Txt.endswith z brk with
      | true =>
        refine iteTb (decide_eq_true (congrArg V.str (tail2_iff.mpr ee))) ?_
        obtain ⟨a, rfl⟩ := ends_app ee
        have hla : a.length + 2 ≤ 6000 := by rw [appLen, brk_len] at hz; exact hz
        refine ⟨_, rfl, _, rfl, _, rfl, a ++ brk, rfl, hz', ?_⟩
        rw [cut_call a (by omega)]
        have la : a.length ≤ 6000 := by omega
        refine ⟨_, rfl, rfl, _, _, rfl, rfl, dotlen0, Nat.le_trans (show a.length + 2 ≤ 6002 by omega) (by decide), fun p2 hp2 => ?_⟩
        have hlen := split_few a ("." : Str) (Nat.le_trans (show a.length + 2 ≤ 6002 by omega) (by decide))
        have s2 := s1.put hp2 (o := .lst ((Txt.split a ("." : Str)).map V.str))
        have k2 : upd H1 p2 (.lst ((Txt.split a ("." : Str)).map V.str)) p2 = some (.lst ((Txt.split a ("." : Str)).map V.str)) := upd_same
        generalize upd H1 p2 (.lst ((Txt.split a ("." : Str)).map V.str)) = H2 at s2 k2
        refine ⟨_, rfl, p2, _, rfl, .inl (SqL.of k2), _, _, rfl, rfl, _, rfl, ite2d (fun h4 => iteT ?_) (fun h4 => ?_)⟩
        · rw [List.length_map] at h4
          have ep : pthB 4 a = false := by unfold pthB; rw [decide_eq_false (by omega)]; rfl
          exact qn (not_rdC en ep) H2 s2
        rw [List.length_map] at h4
        refine ⟨_, rfl, p2, rfl, ⟨_, SqL.of k2⟩, ?_⟩
        refine comp_list (fun v => match v with | .str y => .bl (nmB y) | _ => .non) (by rw [List.length_map]; exact hlen) (SqL.of k2) (fun x H' Q' hx sm k' => ?_) (fun H3 s3 p3 hp3 => ?_)
        · obtain ⟨y, hy, rfl⟩ := List.mem_map.mp hx
          exact ⟨_, rfl, y, rfl, Nat.le_trans (split_dot hy) la, k'⟩
        refine ⟨p3, (Txt.split a ("." : Str)).map nmB, rfl, SqL.of (by rw [upd_same, List.map_map, List.map_map]; rfl), _, rfl, ?_⟩
        have s4 := (s2.trans s3).put hp3 (o := .lst (((Txt.split a ("." : Str)).map V.str).map fun v => match v with | .str y => V.bl (nmB y) | _ => V.non))
        have k4 := (Same.new hp3 (o := .lst (((Txt.split a ("." : Str)).map V.str).map fun v => match v with | .str y => V.bl (nmB y) | _ => V.non))) _ _ (s3 _ _ k2)
        have ea : ((Txt.split a ("." : Str)).map nmB).all id = pthB 4 a := by
          unfold pthB
          rw [decide_eq_true (show ((Txt.split a ("." : Str)).length : Int) ≤ ((4 : Nat) : Int) by omega), List.all_map]; rfl
        cases ep : pthB 4 a with
        | false => exact iteNFb (ea.trans ep) (qn (not_rdC en ep) _ s4)
        | true =>
          obtain ⟨ys, g, ey⟩ := pth4.mp ep
          refine iteNTb (ea.trans ep) ⟨_, rfl, _, rfl, _, rfl, p2, _, rfl, .inl ⟨SqL.of k4, fun r hr' => ⟨by show 3 ≤ sizeLine; decide, fun p5 hp5 => ?_⟩⟩⟩
          have hsp : Txt.split a ("." : Str) = ys := by rw [ey]; exact dotted_split ys g.lo g.nm
          exact q (.nms true ys) g (by rw [ey]; rfl) _ _ ((s4.put hr').put hp5) ⟨p5, _, rfl, upd_same, r, rfl, (Same.new hp5) _ _ (by rw [upd_same, hsp])⟩
      | false =>
        refine iteFb (decide_eq_false fun k => by have := tail2_iff.mp (V.str.inj k); rw [ee] at this; cases this) ?_
        have la : z.length ≤ 6000 := by omega
        refine ⟨_, rfl, rfl, _, _, rfl, rfl, dotlen0, Nat.le_trans (show z.length + 2 ≤ 6002 by omega) (by decide), fun p2 hp2 => ?_⟩
        have hlen := split_few z ("." : Str) (Nat.le_trans (show z.length + 2 ≤ 6002 by omega) (by decide))
        have s2 := s1.put hp2 (o := .lst ((Txt.split z ("." : Str)).map V.str))
        have k2 : upd H1 p2 (.lst ((Txt.split z ("." : Str)).map V.str)) p2 = some (.lst ((Txt.split z ("." : Str)).map V.str)) := upd_same
        generalize upd H1 p2 (.lst ((Txt.split z ("." : Str)).map V.str)) = H2 at s2 k2
        refine ⟨_, rfl, p2, _, rfl, .inl (SqL.of k2), _, _, rfl, rfl, _, rfl, ite2d (fun h4 => iteT ?_) (fun h4 => ?_)⟩
        · rw [List.length_map] at h4
          have ep : pthB 4 z = false := by unfold pthB; rw [decide_eq_false (by omega)]; rfl
          exact qn (not_rdP en ee ep) H2 s2
        rw [List.length_map] at h4
        refine ⟨_, rfl, p2, rfl, ⟨_, SqL.of k2⟩, ?_⟩
        refine comp_list (fun v => match v with | .str y => .bl (nmB y) | _ => .non) (by rw [List.length_map]; exact hlen) (SqL.of k2) (fun x H' Q' hx sm k' => ?_) (fun H3 s3 p3 hp3 => ?_)
        · obtain ⟨y, hy, rfl⟩ := List.mem_map.mp hx
          exact ⟨_, rfl, y, rfl, Nat.le_trans (split_dot hy) la, k'⟩
        refine ⟨p3, (Txt.split z ("." : Str)).map nmB, rfl, SqL.of (by rw [upd_same, List.map_map, List.map_map]; rfl), _, rfl, ?_⟩
        have s4 := (s2.trans s3).put hp3 (o := .lst (((Txt.split z ("." : Str)).map V.str).map fun v => match v with | .str y => V.bl (nmB y) | _ => V.non))
        have k4 := (Same.new hp3 (o := .lst (((Txt.split z ("." : Str)).map V.str).map fun v => match v with | .str y => V.bl (nmB y) | _ => V.non))) _ _ (s3 _ _ k2)
        have ea : ((Txt.split z ("." : Str)).map nmB).all id = pthB 4 z := by
          unfold pthB
          rw [decide_eq_true (show ((Txt.split z ("." : Str)).length : Int) ≤ ((4 : Nat) : Int) by omega), List.all_map]; rfl
        cases ep : pthB 4 z with
        | false => exact iteNFb (ea.trans ep) (qn (not_rdP en ee ep) _ s4)
        | true =>
          obtain ⟨ys, g, ey⟩ := pth4.mp ep
          refine iteNTb (ea.trans ep) ⟨_, rfl, _, rfl, _, rfl, p2, _, rfl, .inl ⟨SqL.of k4, fun r hr' => ⟨by show 3 ≤ sizeLine; decide, fun p5 hp5 => ?_⟩⟩⟩
          have hsp : Txt.split z ("." : Str) = ys := by rw [ey]; exact dotted_split ys g.lo g.nm
          exact q (.nms false ys) g (by rw [ey]; rfl) _ _ ((s4.put hr').put hp5) ⟨p5, _, rfl, upd_same, r, rfl, (Same.new hp5) _ _ (by rw [upd_same, hsp])⟩
    · refine iteTb (by rw [decide_eq_false fun k => e0 (V.str.inj k)]; rfl) ?_
      refine ⟨_, rfl, _, rfl, z, rfl, hz', rfl, _, rfl, ?_⟩
      by_cases ef : (z.cps.toList.filter inF).length = z.length
      · have hall : z.cps.toList.all inF = true := filt_all (by rw [ef, strLen])
        refine iteTb (decide_eq_true (by rw [ef])) ?_
        refine ⟨_, rfl, z, rfl, hz', _, _, rfl, rfl, _, rfl, ite2d (fun h20 => iteT ?_) (fun h20 => ?_)⟩
        · exact qn (fun r => by have := figs_rd hall r; unfold numB at this; rw [decide_eq_false (show ¬ z.length ≤ 20 by omega)] at this; simp at this) H1 s1
        cases hcs : z.cps.toList with
        | nil => exact absurd (strExt (by rw [hcs]; decide +kernel)) e0
        | cons c0 cr =>
        have hat : atI z.cps.toList 0 = some c0 := atI_nat (j := 0) (by rw [hcs]; rfl)
        have hl1 : 1 ≤ z.length := by rw [strLen, hcs, List.length_cons]; omega
        have hnum : numB z = !(decide (c0 = 48) && !decide (z = zero)) := by
          unfold numB
          rw [decide_eq_true hl1, decide_eq_true (show z.length ≤ 20 by omega), hall, hcs]
          have : decide ((c0 :: cr).head? = some 48) = decide (c0 = 48) := by
            by_cases h : c0 = 48
            · rw [decide_eq_true h, decide_eq_true (by rw [h]; rfl)]
            · rw [decide_eq_false h, decide_eq_false (fun z => h (by simpa using z))]
          rw [this, Bool.and_true]; rfl
        refine ⟨_, rfl, z, _, c0, rfl, rfl, hz', hat, rfl, _, rfl, ite2d (fun h3 => ?_) (fun h3 => ?_)⟩
        · have hc : c0 = 48 := by
            have e : (⟨#[c0]⟩ : Str) = ("0" : Str) := V.str.inj h3
            have e2 := congrArg (fun x : Str => x.cps.toList) e
            have e3 : (("0" : Str)).cps.toList = [48] := by decide +kernel
            rw [e3] at e2
            simpa using e2
          refine ⟨_, rfl, z, rfl, hz', _, _, rfl, rfl, _, rfl, ite2d (fun h1 => ?_) (fun h1 => ?_)⟩
          · have hne : ¬ z = zero := fun k => by rw [k] at h1; revert h1; decide +kernel
            have en : numB z = false := by rw [hnum, decide_eq_true hc, decide_eq_false hne]; rfl
            exact qn (fun r => by rw [figs_rd hall r] at en; cases en) H1 s1
          · have hz0 : z = zero := strExt (by
              rw [hcs, zero_codes, hc]
              have : cr.length = 0 := by have := strLen z; rw [hcs, List.length_cons] at this; omega
              rw [List.length_eq_zero_iff.mp this])
            have en : numB z = true := by rw [hnum, hz0, decide_eq_true rfl, Bool.not_true, Bool.and_false]; rfl
            obtain ⟨m, hm, ez⟩ := numB_num en
            obtain ⟨n1, n2, n3, n4⟩ := numS_ok hm
            refine ⟨_, rfl, _, rfl, z, _, rfl, by rw [ez]; exact n4, by rw [ez]; omega, by show 3 ≤ sizeLine; decide, fun p5 hp5 => ?_⟩
            exact q (.num m) hm ez _ _ (s1.put hp5) ⟨p5, _, rfl, upd_same, rfl⟩
        · have hc : ¬ c0 = 48 := fun e => h3 (by subst e; exact congrArg V.str (strExt (by decide +kernel)))
          have en : numB z = true := by rw [hnum, decide_eq_false hc]; rfl
          obtain ⟨m, hm, ez⟩ := numB_num en
          obtain ⟨n1, n2, n3, n4⟩ := numS_ok hm
          refine ⟨_, rfl, _, rfl, z, _, rfl, by rw [ez]; exact n4, by rw [ez]; omega, by show 3 ≤ sizeLine; decide, fun p5 hp5 => ?_⟩
          exact q (.num m) hm ez _ _ (s1.put hp5) ⟨p5, _, rfl, upd_same, rfl⟩
      · have hall : z.cps.toList.all inF = false := filt_not (by rw [← strLen]; exact ef)
        have en : numB z = false := by unfold numB; rw [hall, Bool.and_false]
        refine iteFb (decide_eq_false fun k => ef (by have := V.int.inj k; omega)) ?_
        refine ⟨_, rfl, _, rfl, _, rfl, z, rfl, hz', rfl, _, rfl, ?_⟩
        cases ee : Txt.endswith z brk with
        | true =>
          refine iteTb (decide_eq_true (congrArg V.str (tail2_iff.mpr ee))) ?_
          obtain ⟨a, rfl⟩ := ends_app ee
          have hla : a.length + 2 ≤ 6000 := by rw [appLen, brk_len] at hz; exact hz
          refine ⟨_, rfl, _, rfl, _, rfl, a ++ brk, rfl, hz', ?_⟩
          rw [cut_call a (by omega)]
          have la : a.length ≤ 6000 := by omega
          refine ⟨_, rfl, rfl, _, _, rfl, rfl, dotlen0, Nat.le_trans (show a.length + 2 ≤ 6002 by omega) (by decide), fun p2 hp2 => ?_⟩
          have hlen := split_few a ("." : Str) (Nat.le_trans (show a.length + 2 ≤ 6002 by omega) (by decide))
          have s2 := s1.put hp2 (o := .lst ((Txt.split a ("." : Str)).map V.str))
          have k2 : upd H1 p2 (.lst ((Txt.split a ("." : Str)).map V.str)) p2 = some (.lst ((Txt.split a ("." : Str)).map V.str)) := upd_same
          generalize upd H1 p2 (.lst ((Txt.split a ("." : Str)).map V.str)) = H2 at s2 k2
          refine ⟨_, rfl, p2, _, rfl, .inl (SqL.of k2), _, _, rfl, rfl, _, rfl, ite2d (fun h4 => iteT ?_) (fun h4 => ?_)⟩
          · rw [List.length_map] at h4
            have ep : pthB 4 a = false := by unfold pthB; rw [decide_eq_false (by omega)]; rfl
            exact qn (not_rdC en ep) H2 s2
          rw [List.length_map] at h4
          refine ⟨_, rfl, p2, rfl, ⟨_, SqL.of k2⟩, ?_⟩
          refine comp_list (fun v => match v with | .str y => .bl (nmB y) | _ => .non) (by rw [List.length_map]; exact hlen) (SqL.of k2) (fun x H' Q' hx sm k' => ?_) (fun H3 s3 p3 hp3 => ?_)
          · obtain ⟨y, hy, rfl⟩ := List.mem_map.mp hx
            exact ⟨_, rfl, y, rfl, Nat.le_trans (split_dot hy) la, k'⟩
          refine ⟨p3, (Txt.split a ("." : Str)).map nmB, rfl, SqL.of (by rw [upd_same, List.map_map, List.map_map]; rfl), _, rfl, ?_⟩
          have s4 := (s2.trans s3).put hp3 (o := .lst (((Txt.split a ("." : Str)).map V.str).map fun v => match v with | .str y => V.bl (nmB y) | _ => V.non))
          have k4 := (Same.new hp3 (o := .lst (((Txt.split a ("." : Str)).map V.str).map fun v => match v with | .str y => V.bl (nmB y) | _ => V.non))) _ _ (s3 _ _ k2)
          have ea : ((Txt.split a ("." : Str)).map nmB).all id = pthB 4 a := by
            unfold pthB
            rw [decide_eq_true (show ((Txt.split a ("." : Str)).length : Int) ≤ ((4 : Nat) : Int) by omega), List.all_map]; rfl
          cases ep : pthB 4 a with
          | false => exact iteNFb (ea.trans ep) (qn (not_rdC en ep) _ s4)
          | true =>
            obtain ⟨ys, g, ey⟩ := pth4.mp ep
            refine iteNTb (ea.trans ep) ⟨_, rfl, _, rfl, _, rfl, p2, _, rfl, .inl ⟨SqL.of k4, fun r hr' => ⟨by show 3 ≤ sizeLine; decide, fun p5 hp5 => ?_⟩⟩⟩
            have hsp : Txt.split a ("." : Str) = ys := by rw [ey]; exact dotted_split ys g.lo g.nm
            exact q (.nms true ys) g (by rw [ey]; rfl) _ _ ((s4.put hr').put hp5) ⟨p5, _, rfl, upd_same, r, rfl, (Same.new hp5) _ _ (by rw [upd_same, hsp])⟩
        | false =>
          refine iteFb (decide_eq_false fun k => by have := tail2_iff.mp (V.str.inj k); rw [ee] at this; cases this) ?_
          have la : z.length ≤ 6000 := by omega
          refine ⟨_, rfl, rfl, _, _, rfl, rfl, dotlen0, Nat.le_trans (show z.length + 2 ≤ 6002 by omega) (by decide), fun p2 hp2 => ?_⟩
          have hlen := split_few z ("." : Str) (Nat.le_trans (show z.length + 2 ≤ 6002 by omega) (by decide))
          have s2 := s1.put hp2 (o := .lst ((Txt.split z ("." : Str)).map V.str))
          have k2 : upd H1 p2 (.lst ((Txt.split z ("." : Str)).map V.str)) p2 = some (.lst ((Txt.split z ("." : Str)).map V.str)) := upd_same
          generalize upd H1 p2 (.lst ((Txt.split z ("." : Str)).map V.str)) = H2 at s2 k2
          refine ⟨_, rfl, p2, _, rfl, .inl (SqL.of k2), _, _, rfl, rfl, _, rfl, ite2d (fun h4 => iteT ?_) (fun h4 => ?_)⟩
          · rw [List.length_map] at h4
            have ep : pthB 4 z = false := by unfold pthB; rw [decide_eq_false (by omega)]; rfl
            exact qn (not_rdP en ee ep) H2 s2
          rw [List.length_map] at h4
          refine ⟨_, rfl, p2, rfl, ⟨_, SqL.of k2⟩, ?_⟩
          refine comp_list (fun v => match v with | .str y => .bl (nmB y) | _ => .non) (by rw [List.length_map]; exact hlen) (SqL.of k2) (fun x H' Q' hx sm k' => ?_) (fun H3 s3 p3 hp3 => ?_)
          · obtain ⟨y, hy, rfl⟩ := List.mem_map.mp hx
            exact ⟨_, rfl, y, rfl, Nat.le_trans (split_dot hy) la, k'⟩
          refine ⟨p3, (Txt.split z ("." : Str)).map nmB, rfl, SqL.of (by rw [upd_same, List.map_map, List.map_map]; rfl), _, rfl, ?_⟩
          have s4 := (s2.trans s3).put hp3 (o := .lst (((Txt.split z ("." : Str)).map V.str).map fun v => match v with | .str y => V.bl (nmB y) | _ => V.non))
          have k4 := (Same.new hp3 (o := .lst (((Txt.split z ("." : Str)).map V.str).map fun v => match v with | .str y => V.bl (nmB y) | _ => V.non))) _ _ (s3 _ _ k2)
          have ea : ((Txt.split z ("." : Str)).map nmB).all id = pthB 4 z := by
            unfold pthB
            rw [decide_eq_true (show ((Txt.split z ("." : Str)).length : Int) ≤ ((4 : Nat) : Int) by omega), List.all_map]; rfl
          cases ep : pthB 4 z with
          | false => exact iteNFb (ea.trans ep) (qn (not_rdP en ee ep) _ s4)
          | true =>
            obtain ⟨ys, g, ey⟩ := pth4.mp ep
            refine iteNTb (ea.trans ep) ⟨_, rfl, _, rfl, _, rfl, p2, _, rfl, .inl ⟨SqL.of k4, fun r hr' => ⟨by show 3 ≤ sizeLine; decide, fun p5 hp5 => ?_⟩⟩⟩
            have hsp : Txt.split z ("." : Str) = ys := by rw [ey]; exact dotted_split ys g.lo g.nm
            exact q (.nms false ys) g (by rw [ey]; rfl) _ _ ((s4.put hr').put hp5) ⟨p5, _, rfl, upd_same, r, rfl, (Same.new hp5) _ _ (by rw [upd_same, hsp])⟩

theorem ok_law_read {C : Nat → Addr} (T : Tx K mg C) {f : Addr} {fd : FuncData} (F : Fun K "_law_read" "_law_read" s_law_read f fd) : FnOk P w K mg base CX0 3 f fd psRead spLR14 := by
  obtain ⟨f_law_read_word, fd_law_read_word, A_law_read_word⟩ := T.a_law_read_word
  have G_law_read_word : FnOk P w K mg base CX0 2 f_law_read_word fd_law_read_word psReadWord spLW6 := ok_law_read_word T A_law_read_word.F
  refine F.ok scRead (fun vs H Q E h => ?_) (fun cdv A outer s H vs Q E hr h => ?_)
  · obtain ⟨z, rfl, _⟩ := h
    rfl
  · obtain ⟨z, rfl, hz, q, qn⟩ := h
    have hr2 : Room 2 _ := hr
    refine ⟨_, QSs.h (qss_cons (qs_set (i := 1) scRead.nd rfl (Or.inl rfl) (pe_bm PySem.F.plainAttrs_str PySem.F.slot_str_split PySem.F.type_str_split mt_split (pv 0) (pa_cons pe_str pa_nil)))
      (qss_cons (qs_if (PW.pt (pw_or (pt_cmpR op_gt (pe_callB call_len_seq (by rfl) T.len PySem.boot_len (pa_cons (pv 1) pa_nil)) pe_int (nomark _)) (pw_or1 (pt_cmpR op_eq (pe_op op_mul (pe_op op_fdiv (pe_callB call_len_seq (by rfl) T.len PySem.boot_len (pa_cons (pv 1) pa_nil)) pe_int) pe_int) (pe_callB call_len_seq (by rfl) T.len PySem.boot_len (pa_cons (pv 1) pa_nil)) (nomark _))))) (qss_one (qs_ret pe_non)) qss_nil)
      (qss_cons (qs_set (i := 2) scRead.nd rfl (Or.inl rfl) (pe_lst pa_nil))
      (qss_cons (qs_for PassesOwn.never rfl (pi_range3 (by rfl) T.range (pa_cons pe_int (pa_cons (pe_callB call_len_seq (by rfl) T.len PySem.boot_len (pa_cons (pv 1) pa_nil)) (pa_cons pe_int pa_nil)))) (pg_name (i := 3) scRead.nd rfl (Or.inl rfl))
      (qss_cons (qs_if (PW.pt (pw_and (pt_cmpR op_gt (pv 3) pe_int (nomark _)) (pw_and1 (pt_cmpR op_notIn_seq (pe_ix ix_list (pv 1) (pe_op op_sub (pv 3) pe_int) (fun _ _ => rfl)) (pe_tup (pa_cons pe_str (pa_cons pe_str pa_nil))) (by rfl))))) (qss_one (qs_ret pe_non)) qss_nil)
      (qss_cons (qs_set (i := 4) scRead.nd rfl (Or.inl rfl) (pcall A_law_read_word G_law_read_word hr2 (pa_cons (pe_ix ix_list (pv 1) (pv 3) (fun _ _ => rfl)) (pa_cons (pe_ix ix_list (pe_lst (pa_cons pe_int (pa_cons (pe_un un_neg pe_int) pa_nil))) (pe_callTy call_int1 (by rfl) T.t_int PyProof.Rows.boot_int (pa_cons (pe_and (pe_cmpR op_gt (pv 3) pe_int (nomark _)) (pe_one (pe_cmpR op_eq (pe_ix ix_list (pv 1) (pe_op op_sub (pv 3) pe_int) (fun _ _ => rfl)) pe_str (nomark _)))) pa_nil)) (fun _ _ => rfl)) pa_nil))))
      (qss_cons (qs_if (pt_cmpR op_isN (pv 4) pe_non (nomark _)) (qss_one (qs_ret pe_non)) qss_nil)
      (qss_one (qs_expr (pe_bm PySem.F.plainAttrs_list PySem.F.slot_list_append PySem.F.type_list_append mt_append (pv 2) (pa_cons (pv 4) pa_nil))))))))
      (qss_one (qs_ret (pv 2))))))), ?_⟩
    refine ⟨_, rfl, rfl, _, _, rfl, rfl, blanklen0, Nat.le_trans (show z.length + 2 ≤ 6002 by omega) (by decide), fun l hl0 => ?_⟩
    have hmem : ∀ w ∈ Txt.split z (" " : Str), w.length ≤ 6000 := fun w hw => Nat.le_trans (split_blank hw) hz
    have s0 : Same H (upd H l (.lst ((Txt.split z (" " : Str)).map V.str))) := Same.new hl0
    have hl : upd H l (.lst ((Txt.split z (" " : Str)).map V.str)) l = some (.lst ((Txt.split z (" " : Str)).map V.str)) := upd_same
    generalize upd H l (.lst ((Txt.split z (" " : Str)).map V.str)) = H9 at s0 hl
    generalize Txt.split z (" " : Str) = ws at q qn hmem hl
    have q : ∀ ts, GoodTs ts → ws = wordsOf ts → ∀ l' H', H9 l' = none → Same H9 H' → TmsAt H' l' ts → Q (.ref l') H' := fun ts g e l' H' h1 h2 h3 => q ts g e l' H' (s0.free h1) (s0.trans h2) h3
    have qn : ¬ RdE ws → Pur .non H9 Q := fun n H' h2 => qn n H' (s0.trans h2)
    clear hl0 s0 hz
    revert q qn hl
    generalize H9 = H
    intro hl q qn
    refine ⟨_, rfl, l, _, rfl, .inl (SqL.of hl), _, _, rfl, rfl, _, rfl, ite2d (fun h11 => iteT ?_) (fun h11 => ?_)⟩
    · rw [List.length_map] at h11
      exact qn (fun r => by have := (rdE_len r).2; omega) H (Same.refl H)
    rw [List.length_map] at h11
    refine ⟨_, rfl, l, _, rfl, .inl (SqL.of hl), _, _, rfl, rfl, ⟨by decide, by decide⟩, _, _, rfl, rfl, .inr ⟨by decide, by decide⟩, _, rfl, l, _, rfl, .inl (SqL.of hl), rfl, _, rfl, iteVi (fun h => ?_) (fun ho => ?_)⟩
    · rw [List.length_map] at h
      exact qn (fun r => by have := (rdE_len r).1; omega) H (Same.refl H)
    rw [List.length_map] at ho
    obtain ⟨k, hk, hk5⟩ : ∃ k, ws.length = 2 * k + 1 ∧ k ≤ 5 := ⟨ws.length / 2, by omega, by omega⟩
    refine ⟨by show 0 ≤ sizeLine; decide, fun L hL => ?_⟩
    have hsize : Builtin.Range.rangeSize 0 ((ws.map V.str).length : Int) 2 = ((k + 1 : Nat) : Int) := by
      rw [List.length_map, hk]
      unfold Builtin.Range.rangeSize
      rw [if_pos (by decide)]
      split <;> omega
    refine ⟨_, rfl, l, _, rfl, .inl (SqL.of ((Same.new hL) _ _ hl)), 0, _, 2, rfl, by decide, by decide, ?_, by rw [hsize]; omega, ?_⟩
    · rw [List.length_map]
      exact small_two0 (by omega)
    rw [hsize, Int.toNat_natCast]
    refine for_rangeS (fun i σ H' => ∃ v2 v3 xs ts, σ = [some (.str z), some (.ref l), some (.ref L), v2, v3] ∧ Same H H' ∧ H' L = some (.lst xs) ∧ xs.length = ts.length ∧ ((i = 0 ∧ ts = []) ∨ ∃ j, i = j + 1 ∧ RdTo ws j ts) ∧ ∀ (j : Nat) x, xs[j]? = some x → ∃ t, ts[j]? = some t ∧ TmAt H' x t)
      ⟨none, none, [], [], rfl, Same.new hL, upd_same, rfl, .inl ⟨rfl, rfl⟩, fun j x hj => by simp at hj⟩ ?_ ?_
    · rintro i σ H3 hi ⟨v2, v3, xs, ts, rfl, sm, h3L, hxl, rd, hx⟩
      have hw2 : ws[2 * i]? = some (ws[2 * i]'(by omega)) := List.getElem?_eq_getElem (by omega)
      generalize ws[2 * i]'(by omega) = w2 at hw2
      have hl3 : H3 l = some (.lst (ws.map V.str)) := sm _ _ hl
      have a2 : atI (ws.map V.str) (0 + (i : Nat) * 2) = some (V.str w2) := by
        have := atI_nat (xs := ws.map V.str) (j := 2 * i) (v := V.str w2) (by rw [List.getElem?_map, hw2]; rfl)
        rwa [show (((2 * i : Nat)) : Int) = 0 + (i : Nat) * 2 from by omega] at this
      refine ⟨_, rfl, _, _, rfl, rfl, _, rfl, ?_⟩
      rcases rd with ⟨rfl, rfl⟩ | ⟨j, rfl, rd⟩
      · refine iteFb (by decide) (iteF ?_)
        refine ⟨_, rfl, _, rfl, l, _, _, _, rfl, rfl, SqL.of hl3, a2, _, rfl, by show 2 ≤ sizeLine; decide, fun p1 hp1 => ?_⟩
        refine ⟨_, rfl, _, _, rfl, rfl, _, rfl, iteFb (by decide) ?_⟩
        refine .inr ⟨_, rfl, p1, _, _, V.int 1, rfl, rfl, SqL.of upd_same, rfl, ?_⟩
        have s4 := sm.put hp1 (o := .lst [V.int 1, V.int (-1)])
        refine ⟨w2, 1, rfl, hmem w2 (List.mem_of_getElem? hw2), fun th g e v H5 s5 hv => ?_, fun b H5 s5 => ?_⟩
        · obtain ⟨pp, xx, rfl, e1, e2⟩ := id hv
          have s35 : Same H H5 := s4.trans s5
          have h5L : H5 L = some (.lst xs) := s5 _ _ ((Same.new hp1) _ _ h3L)
          refine ⟨_, rfl, rfl, _, rfl, iteFb (decide_eq_false (by intro z; cases z)) ?_⟩
          refine ⟨_, rfl, .inl ⟨rfl, _, SqL.of h5L⟩, _, rfl, L, _, _, rfl, rfl, h5L, Nat.lt_of_lt_of_le (show xs.length < 1000 by rw [hxl]; decide) big1000, ?_⟩
          have hx0 : xs = [] := List.length_eq_zero_iff.mp hxl
          subst hx0
          refine ⟨_, _, [V.ref pp], [⟨1, th⟩], rfl, s35.over hL, upd_same, rfl, .inr ⟨0, rfl, .first g (by rw [← e]; exact hw2)⟩, fun j x hj => ?_⟩
          cases j with
          | zero => cases hj; exact ⟨_, rfl, TmAt.upd hv h5L⟩
          | succ j => simp at hj
        · refine ⟨_, rfl, rfl, _, rfl, iteTb (decide_eq_true rfl) ?_⟩
          exact qn (fun r => b (rdE_even r (i := 0) hw2)) H5 (s4.trans s5)
      · refine iteTb (decide_eq_true (by omega)) ?_
        have hw1 : ws[2 * j + 1]? = some (ws[2 * j + 1]'(by omega)) := List.getElem?_eq_getElem (by omega)
        generalize ws[2 * j + 1]'(by omega) = w1 at hw1
        have a1 : atI (ws.map V.str) (0 + ((j + 1 : Nat) : Int) * 2 - 1) = some (V.str w1) := by
          have := atI_nat (xs := ws.map V.str) (j := 2 * j + 1) (v := V.str w1) (by rw [List.getElem?_map, hw1]; rfl)
          rwa [show (((2 * j + 1 : Nat)) : Int) = 0 + ((j + 1 : Nat) : Int) * 2 - 1 from by omega] at this
        refine ⟨_, rfl, _, rfl, _, _, rfl, rfl, l, _, _, _, rfl, rfl, SqL.of hl3, a1, by show 2 ≤ sizeLine; decide, fun p1 hp1 => ?_⟩
        have s4 := sm.put hp1 (o := .tup [V.str "+", V.str "-"])
        refine ⟨p1, _, rfl, .inr (SqT.of upd_same), rfl, rfl, _, rfl, ?_⟩
        by_cases ew : w1 = "+" ∨ w1 = "-"
        · have ei : (!inV (V.str w1) [V.str "+", V.str "-"]) = false := by rcases ew with k | k <;> rw [k] <;> decide +kernel
          refine iteFb ei ?_
          have k1 := (Same.new hp1 (o := .tup [V.str "+", V.str "-"])) _ _ h3L
          have hl4 := (Same.new hp1 (o := .tup [V.str "+", V.str "-"])) _ _ hl3
          have sn := Same.new hp1 (o := .tup [V.str "+", V.str "-"])
          generalize upd H3 p1 (.tup [V.str "+", V.str "-"]) = H4 at s4 k1 hl4 sn
          refine ⟨_, rfl, _, rfl, l, _, _, _, rfl, rfl, SqL.of hl4, a2, _, rfl, by show 2 ≤ sizeLine; decide, fun p2 hp2 => ?_⟩
          have hl5 := (Same.new hp2 (o := .lst [V.int 1, V.int (-1)])) _ _ hl4
          refine ⟨_, rfl, _, _, rfl, rfl, _, rfl, iteTb (decide_eq_true (by omega)) ?_⟩
          refine ⟨_, rfl, _, rfl, _, _, rfl, rfl, l, _, _, _, rfl, rfl, SqL.of hl5, a1, rfl, ?_⟩
          have hs : ∃ s : Int, (s = 1 ∨ s = -1) ∧ w1 = sgw s ∧ atI [V.int 1, V.int (-1)] (if decide (V.str w1 = V.str "-") = true then 1 else 0) = some (V.int s) := by
            rcases ew with k | k
            · exact ⟨1, .inl rfl, k, by rw [k]; decide +kernel⟩
            · exact ⟨-1, .inr rfl, k, by rw [k]; decide +kernel⟩
          obtain ⟨s, hs1, hs2, hs3⟩ := hs
          refine .inr ⟨_, rfl, p2, _, _, V.int s, rfl, rfl, SqL.of upd_same, hs3, ?_⟩
          have s6 := s4.put hp2 (o := .lst [V.int 1, V.int (-1)])
          refine ⟨w2, s, rfl, hmem w2 (List.mem_of_getElem? hw2), fun th g e v H5 s5 hv => ?_, fun b H5 s5 => ?_⟩
          · obtain ⟨pp, xx, rfl, e1, e2⟩ := id hv
            have s35 : Same H H5 := s6.trans s5
            have h5L : H5 L = some (.lst xs) := s5 _ _ ((Same.new hp2) _ _ k1)
            have sx : Same H3 H5 := sn.trans ((Same.new hp2).trans s5)
            have tl := rd.lo
            refine ⟨_, rfl, rfl, _, rfl, iteFb (decide_eq_false (by intro z; cases z)) ?_⟩
            refine ⟨_, rfl, .inl ⟨rfl, _, SqL.of h5L⟩, _, rfl, L, _, _, rfl, rfl, h5L, Nat.lt_of_lt_of_le (show xs.length < 1000 by omega) big1000, ?_⟩
            refine ⟨_, _, xs ++ [V.ref pp], ts ++ [⟨s, th⟩], rfl, s35.over hL, upd_same, by rw [List.length_append, List.length_append, hxl]; rfl, .inr ⟨j + 1, rfl, rd.next hs1 g (by rw [hw1, hs2]) (by rw [show 2 * j + 2 = 2 * (j + 1) from by omega, hw2, e])⟩, fun j' x hj => ?_⟩
            by_cases hjx : j' < xs.length
            · rw [List.getElem?_append_left hjx] at hj
              obtain ⟨t, ht, tm⟩ := hx j' x hj
              exact ⟨t, by rw [List.getElem?_append_left (by omega)]; exact ht, (tm.same sx).upd h5L⟩
            · rw [List.getElem?_append_right (by omega)] at hj
              have hj0 : j' = xs.length := by
                cases hh : j' - xs.length with
                | zero => omega
                | succ k => rw [hh] at hj; simp at hj
              subst hj0
              rw [Nat.sub_self] at hj
              have : V.ref pp = x := by simpa using hj
              subst this
              exact ⟨_, by rw [List.getElem?_append_right (by omega), hxl, Nat.sub_self]; rfl, TmAt.upd hv h5L⟩
          · refine ⟨_, rfl, rfl, _, rfl, iteTb (decide_eq_true rfl) ?_⟩
            exact qn (fun r => b (rdE_even r (i := j + 1) hw2)) H5 (s6.trans s5)
        · have ei : (!inV (V.str w1) [V.str "+", V.str "-"]) = true := by
            have n1 : ((("+" : Str)) == w1) = false := beq_eq_false_iff_ne.mpr fun k => ew (.inl k.symm)
            have n2 : ((("-" : Str)) == w1) = false := beq_eq_false_iff_ne.mpr fun k => ew (.inr k.symm)
            show (!((("+" : Str) == w1) || ((("-" : Str) == w1) || false))) = true
            rw [n1, n2]; rfl
          refine iteTb ei ?_
          exact qn (fun r => by
            obtain ⟨s, hs, k⟩ := rdE_odd r hw1
            rcases hs with rfl | rfl
            · exact ew (.inl k)
            · exact ew (.inr k)) _ s4
    · rintro σ H3 ⟨v2, v3, xs, ts, rfl, sm, h3L, hxl, rd, hx⟩
      rcases rd with ⟨z, _⟩ | ⟨j, ej, rd⟩
      · cases z
      · obtain rfl : j = k := by omega
        obtain ⟨gs, ew⟩ := rd.all hk hk5
        exact ⟨_, rfl, q ts gs ew L H3 hL sm ⟨xs, h3L, hxl, hx⟩⟩

theorem ok_law_worded {C : Nat → Addr} (T : Tx K mg C) {f : Addr} {fd : FuncData} (F : Fun K "_law_worded" "_law_worded" s_law_worded f fd) : FnOk P w K mg base CX0 2 f fd psWorded spWorded := by
  obtain ⟨f_law_pick, fd_law_pick, A_law_pick⟩ := T.a_law_pick
  have G_law_pick : FnOk P w K mg base CX0 1 f_law_pick fd_law_pick psPick spPick := ok_pick A_law_pick.F
  refine F.ok scWorded (fun vs H Q E h => ?_) (fun cdv A outer s H vs Q E hr h => ?_)
  · obtain ⟨l, ws, c, rfl, _⟩ := h
    rfl
  · obtain ⟨l, ws, c, rfl, hl, hne, ht, q⟩ := h
    have hr1 : Room 1 _ := hr
    refine ex_of ((qss_cons (qs_set (i := 2) scWorded.nd rfl (Or.inl rfl) (pcall A_law_pick G_law_pick hr1 (pa_cons (pv 1) (pa_cons pe_int (pa_cons (pe_callB call_len_seq (by rfl) T.len PySem.boot_len (pa_cons (pv 0) pa_nil)) pa_nil)))))
      (qss_cons (qs_set (i := 3) scWorded.nd rfl (Or.inl rfl) (pcall A_law_pick G_law_pick hr1 (pa_cons (pv 1) (pa_cons pe_int (pa_cons pe_int pa_nil)))))
      (qss_cons (qs_setQ (i := 4) scWorded.nd rfl (Or.inl rfl) (qe_lstQ (qa_cons pe_str (qa_cons pe_str (qa_cons pe_str (qa_cons pe_str (qa_cons pe_str (qa_cons (pe_op op_rep_str pe_str pe_int) (qa_cons (pe_op op_rep_str pe_str pe_int) (qa_cons pe_str (qa_cons pe_str (qa_cons pe_str (qa_cons pe_str (qa_cons pe_str (qa_cons pe_str (qa_cons pe_str qa_nil))))))))))))))) (hs := by kernel_rfl))
      (qss_cons (qs_set (i := 5) scWorded.nd rfl (Or.inl rfl) (pe_ix ix_list (pv 4) (pcall A_law_pick G_law_pick hr1 (pa_cons (pv 1) (pa_cons pe_int (pa_cons pe_int pa_nil)))) (fun _ _ => rfl)))
      (qss_cons (qs_if (pt_cmpR op_eq (pv 3) pe_int (nomark _)) (qss_one (qs_ret (pe_op op_cat (pe_op op_cat (pe_slice sl_list (pv 0) po_none (po_some (pv 2))) (pe_lst (pa_cons (pv 5) pa_nil))) (pe_slice sl_list (pv 0) (po_some (pe_op op_add (pv 2) pe_int)) po_none)))) qss_nil)
      (qss_cons (qs_if (pt_cmpR op_eq (pv 3) pe_int (nomark _)) (qss_one (qs_ret (pe_op op_cat (pe_slice sl_list (pv 0) po_none (po_some (pv 2))) (pe_slice sl_list (pv 0) (po_some (pe_op op_add (pv 2) pe_int)) po_none)))) qss_nil)
      (qss_cons (qs_if (pt_cmpR op_eq (pv 3) pe_int (nomark _)) (qss_one (qs_ret (pe_op op_cat (pe_op op_cat (pe_slice sl_list (pv 0) po_none (po_some (pv 2))) (pe_slice sl_list (pv 0) (po_some (pv 2)) (po_some (pe_op op_add (pv 2) pe_int)))) (pe_slice sl_list (pv 0) (po_some (pv 2)) po_none)))) qss_nil)
      (qss_cons (qs_if (pt_cmpR op_eq (pv 3) pe_int (nomark _)) (qss_one (qs_ret (pe_op op_cat (pv 0) (pe_op op_rep (pe_lst (pa_cons pe_str (pa_cons (pv 5) pa_nil))) (pe_op op_add pe_int (pcall A_law_pick G_law_pick hr1 (pa_cons (pv 1) (pa_cons pe_int (pa_cons pe_int pa_nil))))))))) qss_nil)
      (qss_cons (qs_if (pt_cmpR op_eq (pv 3) pe_int (nomark _)) (qss_one (qs_ret (pe_op op_cat (pe_lst (pa_cons pe_str pa_nil)) (pv 0)))) qss_nil)
      (qss_cons (qs_if (pt_cmpR op_eq (pv 3) pe_int (nomark _)) (qss_one (qs_ret (pe_op op_cat (pe_op op_cat (pe_slice sl_list (pv 0) po_none (po_some (pv 2))) (pe_lst (pa_cons (pe_op op_add_str (pe_ix ix_list (pv 0) (pv 2) (fun _ _ => rfl)) pe_str) pa_nil))) (pe_slice sl_list (pv 0) (po_some (pe_op op_add (pv 2) pe_int)) po_none)))) qss_nil)
      (qss_cons (qs_if (pt_cmpR op_eq (pv 3) pe_int (nomark _)) (qss_one (qs_ret (pe_op op_cat (pe_op op_cat (pe_slice sl_list (pv 0) po_none (po_some (pv 2))) (pe_lst (pa_cons (pe_op op_add_str pe_str (pe_ix ix_list (pv 0) (pv 2) (fun _ _ => rfl))) pa_nil))) (pe_slice sl_list (pv 0) (po_some (pe_op op_add (pv 2) pe_int)) po_none)))) qss_nil)
      (qss_one (qs_ret (pe_op op_cat (pe_op op_cat (pe_slice sl_list (pv 0) po_none (po_some (pv 2))) (pe_lst (pa_cons (pe_op op_add_str (pe_ix ix_list (pv 0) (pv 2) (fun _ _ => rfl)) pe_str) pa_nil))) (pe_slice sl_list (pv 0) (po_some (pe_op op_add (pv 2) pe_int)) po_none)))))))))))))))) ?_
    have hpos : 0 < ws.length := List.length_pos_iff.mpr hne
    have hlen := tot_len ws
    have big : 20000 ≤ sizeLine := by decide
    refine ⟨_, rfl, _, rfl, l, _, rfl, .inl (SqL.of hl), c, 6, _, rfl, by decide, by decide, by rw [List.length_map]; omega, fun H1 s1 => ?_⟩
    have g0 := pick_ge c 6 (m := ((ws.map V.str).length : Int)) (by rw [List.length_map]; omega)
    have g1 := pick_lt c 6 (m := ((ws.map V.str).length : Int)) (by rw [List.length_map]; omega)
    generalize pick c 6 ((ws.map V.str).length : Int) = at_ at g0 g1
    rw [List.length_map] at g1
    obtain ⟨k, rfl⟩ := Int.eq_ofNat_of_zero_le g0
    have hk : k < ws.length := by omega
    refine ⟨_, rfl, c, 7, 8, rfl, by decide, by decide, by decide, fun H2 s2 => ?_⟩
    refine ⟨_, _, rfl, rfl, (mul1 (by decide +kernel) (by decide) (by decide)).1, _, _, rfl, rfl, (mul1 (by decide +kernel) (by decide) (by decide)).1, by show 14 ≤ sizeLine; decide, fun D hD0 => ?_⟩
    have hD : upd H2 D (.lst wl14) D = some (.lst wl14) := upd_same
    refine ⟨_, rfl, _, rfl, c, 8, 14, rfl, by decide, by decide, by decide, fun H4 s4 => ?_⟩
    have s04 : Same H H4 := ((s1.trans s2).put hD0).trans s4
    obtain ⟨v, ev, hv⟩ := atI_mem6 (xs := wl14) (pick_ge c 8 (m := 14) (by decide)) (pick_lt c 8 (m := 14) (by decide))
    obtain ⟨w, rfl, hw⟩ := wl14_word hv
    refine ⟨D, _, _, V.str w, rfl, rfl, SqL.of (s4 _ _ hD), ev, ?_⟩
    have hl4 := s04 _ _ hl
    clear hD ev hv s4 hD0
    have hcl : ∀ lo hi, (cutV (ws.map V.str) lo hi).length ≤ 600 := fun lo hi => Nat.le_trans (cutV_length _ _ _) (by rw [List.length_map]; omega)
    have hwl : (wAt ws k).length < tot ws := tot_mem (wAt_mem hk)
    have lb : ((".b" : Str)).length = 2 := by decide +kernel
    have lc : (("()" : Str)).length = 2 := by decide +kernel
    have lz : (("0" : Str)).length = 1 := by decide +kernel
    have ck1 : cutV (ws.map V.str) (some ((k : Int) + 1)) none = (ws.drop (k + 1)).map V.str := cutd ws (k + 1)
    have cm1 : cutV (ws.map V.str) (some (k : Int)) (some ((k : Int) + 1)) = ((ws.drop k).take 1).map V.str := cut_one ws hk
    have c1 := hcl none (some (k : Int))
    have c2 := hcl (some ((k : Int) + 1)) none
    have c3 := hcl (some (k : Int)) (some ((k : Int) + 1))
    have c4 := hcl (some (k : Int)) none
    have c8 : (ws.map V.str).length ≤ 600 := by rw [List.length_map]; omega
    have d1 := tot_cut ws k
    have d2 := tot_cut ws (k + 1)
    have d3 := tot_drop ws k
    have d4 := tot_cut (ws.drop k) 1
    have n0 := pick_ge c 9 (m := 6) (by decide)
    have n1 := pick_lt c 9 (m := 6) (by decide)
    refine ⟨_, rfl, rfl, _, rfl, iteVi (fun _ => ?_) (fun _ => ?_)⟩
    · refine ⟨_, rfl, _, rfl, _, rfl, l, _, rfl, SqL.of hl4, fun p0 hp0 => ⟨_, rfl, by show 1 ≤ sizeLine; decide, fun p1 hp1 => ⟨p0, p1, _, _, rfl, rfl, ((Same.new hp1) _ _ upd_same), upd_same, by first | omega | (simp only [List.length_append, List.length_cons, List.length_nil]; omega), fun p2 hp2 => ⟨_, rfl, _, rfl, _, _, rfl, rfl, _, rfl, l, _, rfl, SqL.of ((Same.new hp2) _ _ ((Same.new hp1) _ _ ((Same.new hp0) _ _ hl4))), fun p3 hp3 => ⟨p2, p3, _, _, rfl, rfl, ((Same.new hp3) _ _ upd_same), upd_same, by first | omega | (simp only [List.length_append, List.length_cons, List.length_nil]; omega), fun p4 hp4 => q p4 (ws.take k ++ [w] ++ ws.drop (k + 1)) _ (((((s04.put hp0).put hp1).put hp2).put hp3).put hp4) (upd_same.trans ?_) ?_⟩⟩⟩⟩⟩
      · exact congrArg (fun z => some (HO.lst z)) (by rw [cuts, ck1, List.map_append, List.map_append]; rfl)
      · rw [tot_app, tot_app, tot_one]; omega
    refine ⟨_, rfl, rfl, _, rfl, iteVi (fun _ => ?_) (fun _ => ?_)⟩
    · refine ⟨_, rfl, _, rfl, _, rfl, l, _, rfl, SqL.of hl4, fun p0 hp0 => ⟨_, rfl, _, rfl, _, _, rfl, rfl, _, rfl, l, _, rfl, SqL.of ((Same.new hp0) _ _ hl4), fun p1 hp1 => ⟨p0, p1, _, _, rfl, rfl, ((Same.new hp1) _ _ upd_same), upd_same, by first | omega | (simp only [List.length_append, List.length_cons, List.length_nil]; omega), fun p2 hp2 => q p2 (ws.take k ++ ws.drop (k + 1)) _ (((s04.put hp0).put hp1).put hp2) (upd_same.trans ?_) ?_⟩⟩⟩
      · exact congrArg (fun z => some (HO.lst z)) (by rw [cuts, ck1, List.map_append])
      · rw [tot_app]; omega
    refine ⟨_, rfl, rfl, _, rfl, iteVi (fun _ => ?_) (fun _ => ?_)⟩
    · refine ⟨_, rfl, _, rfl, _, rfl, l, _, rfl, SqL.of hl4, fun p0 hp0 => ⟨_, rfl, _, rfl, _, rfl, _, rfl, _, _, rfl, rfl, _, rfl, l, _, rfl, SqL.of ((Same.new hp0) _ _ hl4), fun p1 hp1 => ⟨p0, p1, _, _, rfl, rfl, ((Same.new hp1) _ _ upd_same), upd_same, by omega, fun p2 hp2 => ⟨_, rfl, _, rfl, _, rfl, l, _, rfl, SqL.of ((Same.new hp2) _ _ ((Same.new hp1) _ _ ((Same.new hp0) _ _ hl4))), fun p3 hp3 => ⟨p2, p3, _, _, rfl, rfl, ((Same.new hp3) _ _ upd_same), upd_same, by first | omega | (simp only [List.length_append]; omega), fun p4 hp4 => q p4 (ws.take k ++ (ws.drop k).take 1 ++ ws.drop k) _ (((((s04.put hp0).put hp1).put hp2).put hp3).put hp4) (upd_same.trans ?_) ?_⟩⟩⟩⟩⟩
      · exact congrArg (fun z => some (HO.lst z)) (by rw [cuts, cutd, cm1, List.map_append, List.map_append])
      · rw [tot_app, tot_app]; omega
    refine ⟨_, rfl, rfl, _, rfl, iteVi (fun _ => ?_) (fun _ => ?_)⟩
    · refine ⟨_, rfl, _, rfl, by show 2 ≤ sizeLine; decide, fun p0 hp0 => ⟨_, rfl, c, 9, 6, rfl, by decide, by decide, by decide, fun H5 s5 => ⟨_, _, rfl, rfl, p0, _, _, rfl, rfl, s5 _ _ upd_same, by omega, by omega, by show 2 * _ ≤ sizeLine; omega, fun p1 hp1 => ⟨l, p1, _, _, rfl, rfl, (Same.new hp1) _ _ (s5 _ _ ((Same.new hp0) _ _ hl4)), upd_same, ?_, fun p2 hp2 => q p2 (ws ++ (List.replicate (1 + pick c 9 6).toNat [("+" : Str), w]).flatten) _ (((s04.put hp0).trans s5).put hp1 |>.put hp2) (upd_same.trans ?_) ?_⟩⟩⟩⟩
      · rw [len_rep, List.length_map]; show ws.length + (1 + pick c 9 6).toNat * 2 ≤ sizeLine; omega
      · exact congrArg (fun z => some (HO.lst z)) (by rw [List.map_append, map_flat])
      · rw [tot_app]; rw [tot_rep]; have := Nat.mul_le_mul (show (1 + pick c 9 6).toNat ≤ 6 by omega) (show w.length + 3 ≤ 33 by omega); omega
    refine ⟨_, rfl, rfl, _, rfl, iteVi (fun _ => ?_) (fun _ => ?_)⟩
    · refine ⟨by show 1 ≤ sizeLine; decide, fun p0 hp0 => ⟨_, rfl, p0, l, _, _, rfl, rfl, upd_same, ((Same.new hp0) _ _ hl4), by first | omega | (simp only [List.length_append, List.length_cons, List.length_nil]; omega), fun p1 hp1 => q p1 ([("-" : Str)] ++ ws) _ ((s04.put hp0).put hp1) (upd_same.trans ?_) ?_⟩⟩
      · exact congrArg (fun z => some (HO.lst z)) (by rw [List.map_append]; rfl)
      · rw [tot_app, tot_one, show (("-" : Str)).length = 1 by decide +kernel]; omega
    refine ⟨_, rfl, rfl, _, rfl, iteVi (fun _ => ?_) (fun _ => ?_)⟩
    · refine ⟨_, rfl, _, rfl, _, rfl, l, _, rfl, SqL.of hl4, fun p0 hp0 => ⟨_, rfl, _, rfl, l, _, _, _, rfl, rfl, SqL.of ((Same.new hp0) _ _ hl4), wAt_ix (i := k) hk, _, _, rfl, rfl, by rw [lb]; omega, by show 1 ≤ sizeLine; decide, fun p1 hp1 => ⟨p0, p1, _, _, rfl, rfl, ((Same.new hp1) _ _ upd_same), upd_same, by first | omega | (simp only [List.length_append, List.length_cons, List.length_nil]; omega), fun p2 hp2 => ⟨_, rfl, _, rfl, _, _, rfl, rfl, _, rfl, l, _, rfl, SqL.of ((Same.new hp2) _ _ ((Same.new hp1) _ _ ((Same.new hp0) _ _ hl4))), fun p3 hp3 => ⟨p2, p3, _, _, rfl, rfl, ((Same.new hp3) _ _ upd_same), upd_same, by first | omega | (simp only [List.length_append, List.length_cons, List.length_nil]; omega), fun p4 hp4 => q p4 (ws.take k ++ [wAt ws k ++ (".b" : Str)] ++ ws.drop (k + 1)) _ (((((s04.put hp0).put hp1).put hp2).put hp3).put hp4) (upd_same.trans ?_) ?_⟩⟩⟩⟩⟩
      · exact congrArg (fun z => some (HO.lst z)) (by rw [cuts, ck1, List.map_append, List.map_append]; rfl)
      · rw [tot_app, tot_app, tot_one, appLen, lb]; omega
    refine ⟨_, rfl, rfl, _, rfl, iteVi (fun _ => ?_) (fun _ => ?_)⟩
    · refine ⟨_, rfl, _, rfl, _, rfl, l, _, rfl, SqL.of hl4, fun p0 hp0 => ⟨_, rfl, _, rfl, l, _, _, _, rfl, rfl, SqL.of ((Same.new hp0) _ _ hl4), wAt_ix (i := k) hk, _, _, rfl, rfl, by rw [lz]; omega, by show 1 ≤ sizeLine; decide, fun p1 hp1 => ⟨p0, p1, _, _, rfl, rfl, ((Same.new hp1) _ _ upd_same), upd_same, by first | omega | (simp only [List.length_append, List.length_cons, List.length_nil]; omega), fun p2 hp2 => ⟨_, rfl, _, rfl, _, _, rfl, rfl, _, rfl, l, _, rfl, SqL.of ((Same.new hp2) _ _ ((Same.new hp1) _ _ ((Same.new hp0) _ _ hl4))), fun p3 hp3 => ⟨p2, p3, _, _, rfl, rfl, ((Same.new hp3) _ _ upd_same), upd_same, by first | omega | (simp only [List.length_append, List.length_cons, List.length_nil]; omega), fun p4 hp4 => q p4 (ws.take k ++ [("0" : Str) ++ wAt ws k] ++ ws.drop (k + 1)) _ (((((s04.put hp0).put hp1).put hp2).put hp3).put hp4) (upd_same.trans ?_) ?_⟩⟩⟩⟩⟩
      · exact congrArg (fun z => some (HO.lst z)) (by rw [cuts, ck1, List.map_append, List.map_append]; rfl)
      · rw [tot_app, tot_app, tot_one, appLen, lz]; omega
    refine ⟨_, rfl, _, rfl, _, rfl, l, _, rfl, SqL.of hl4, fun p0 hp0 => ⟨_, rfl, _, rfl, l, _, _, _, rfl, rfl, SqL.of ((Same.new hp0) _ _ hl4), wAt_ix (i := k) hk, _, _, rfl, rfl, by rw [lc]; omega, by show 1 ≤ sizeLine; decide, fun p1 hp1 => ⟨p0, p1, _, _, rfl, rfl, ((Same.new hp1) _ _ upd_same), upd_same, by first | omega | (simp only [List.length_append, List.length_cons, List.length_nil]; omega), fun p2 hp2 => ⟨_, rfl, _, rfl, _, _, rfl, rfl, _, rfl, l, _, rfl, SqL.of ((Same.new hp2) _ _ ((Same.new hp1) _ _ ((Same.new hp0) _ _ hl4))), fun p3 hp3 => ⟨p2, p3, _, _, rfl, rfl, ((Same.new hp3) _ _ upd_same), upd_same, by first | omega | (simp only [List.length_append, List.length_cons, List.length_nil]; omega), fun p4 hp4 => q p4 (ws.take k ++ [wAt ws k ++ ("()" : Str)] ++ ws.drop (k + 1)) _ (((((s04.put hp0).put hp1).put hp2).put hp3).put hp4) (upd_same.trans ?_) ?_⟩⟩⟩⟩⟩
    · exact congrArg (fun z => some (HO.lst z)) (by rw [cuts, ck1, List.map_append, List.map_append]; rfl)
    · rw [tot_app, tot_app, tot_one, appLen, lc]; omega

theorem ok_law_signed {C : Nat → Addr} (T : Tx K mg C) {f : Addr} {fd : FuncData} (F : Fun K "_law_signed" "_law_signed" s_law_signed f fd) : FnOk P w K mg base CX0 2 f fd psSigned spSigned := by
  obtain ⟨f_law_pick, fd_law_pick, A_law_pick⟩ := T.a_law_pick
  have G_law_pick : FnOk P w K mg base CX0 1 f_law_pick fd_law_pick psPick spPick := ok_pick A_law_pick.F
  refine F.ok scSigned (fun vs H Q E h => ?_) (fun cdv A outer s H vs Q E hr h => ?_)
  · obtain ⟨z, c, rfl, _⟩ := h
    rfl
  · obtain ⟨y, c, rfl, k1, h2, q⟩ := h
    have hr1 : Room 1 _ := hr
    refine ⟨_, QSs.h (qss_cons (qs_set (i := 2) scSigned.nd rfl (Or.inl rfl) pe_str)
      (qss_cons (qs_set (i := 3) scSigned.nd rfl (Or.inl rfl) (pcall A_law_pick G_law_pick hr1 (pa_cons (pv 1) (pa_cons pe_int (pa_cons (pe_callB call_len_str (by rfl) T.len PySem.boot_len (pa_cons (pv 0) pa_nil)) pa_nil)))))
      (qss_cons (qs_set (i := 4) scSigned.nd rfl (Or.inl rfl) (pe_ix ix_str (pv 2) (pcall A_law_pick G_law_pick hr1 (pa_cons (pv 1) (pa_cons pe_int (pa_cons (pe_callB call_len_str (by rfl) T.len PySem.boot_len (pa_cons (pv 2) pa_nil)) pa_nil)))) (fun _ _ => rfl)))
      (qss_cons (qs_set (i := 5) scSigned.nd rfl (Or.inl rfl) (pcall A_law_pick G_law_pick hr1 (pa_cons (pv 1) (pa_cons pe_int (pa_cons pe_int pa_nil)))))
      (qss_cons (qs_if (pt_cmpR op_eq (pv 5) pe_int (nomark _)) (qss_one (qs_ret (pe_op op_add_str (pe_op op_add_str (pe_slice sl_str (pv 0) po_none (po_some (pv 3))) (pv 4)) (pe_slice sl_str (pv 0) (po_some (pv 3)) po_none)))) qss_nil)
      (qss_cons (qs_if (pt_cmpR op_eq (pv 5) pe_int (nomark _)) (qss_one (qs_ret (pe_op op_add_str (pe_op op_add_str (pe_slice sl_str (pv 0) po_none (po_some (pv 3))) (pv 4)) (pe_slice sl_str (pv 0) (po_some (pe_op op_add (pv 3) pe_int)) po_none)))) qss_nil)
      (qss_cons (qs_if (pt_cmpR op_eq (pv 5) pe_int (nomark _)) (qss_one (qs_ret (pe_op op_add_str (pv 0) (pv 4)))) qss_nil)
      (qss_one (qs_ret (pe_op op_add_str (pe_slice sl_str (pv 0) po_none (po_some (pv 3))) (pe_slice sl_str (pv 0) (po_some (pe_op op_add (pv 3) pe_int)) po_none))))))))))), ?_⟩
    have hz' : y.length ≤ sizeLine := Nat.le_trans (show y.length ≤ 6000 by omega) (by decide)
    refine ⟨_, rfl, _, rfl, _, rfl, hz', c, 3, (y.length : Int), rfl, by decide, by decide, by omega, fun H1 s1 => ?_⟩
    refine ⟨_, rfl, _, rfl, _, rfl, _, rfl, by decide +kernel, c, 4, _, rfl, by decide, by decide, by decide +kernel, fun H2 s2 => ?_⟩
    refine rd_pick (by decide +kernel) (by decide +kernel) fun ch => ?_
    refine ⟨_, rfl, c, 5, 4, rfl, by decide, by decide, by decide, fun H3 s3 => ?_⟩
    have sm : Same H H3 := s1.trans (s2.trans s3)
    have l2 : ((⟨#[ch]⟩ : Str)).length = 1 := rfl
    have big : 20000 ≤ sizeLine := by decide
    have g0 := pick_ge c 3 (m := (y.length : Int)) (by omega)
    have g1 := pick_lt c 3 (m := (y.length : Int)) (by omega)
    generalize pick c 3 (y.length : Int) = at_ at g0 g1
    have a1 := sl_to (y := y) g0 (by omega)
    have a2 := sl_from (y := y) g0 (by omega)
    have a3 := sl_from (y := y) (i := at_ + 1) (by omega) (by omega)
    have e3 : (at_ + 1).toNat = at_.toNat + 1 := by omega
    rw [e3] at a3
    have g2 : at_.toNat < y.length := by omega
    refine ⟨_, rfl, rfl, _, rfl, iteVi (fun _ => ?_) (fun _ => ?_)⟩
    · exact ⟨_, rfl, _, rfl, _, rfl, y, rfl, hz', _, rfl, _, _, rfl, rfl, by omega, _, rfl, _, rfl, _, rfl, y, rfl, hz', _, _, rfl, rfl, by rw [appLen]; omega, q _ _ (by rw [appLen, appLen]; omega) sm⟩
    refine ⟨_, rfl, rfl, _, rfl, iteVi (fun _ => ?_) (fun _ => ?_)⟩
    · exact ⟨_, rfl, _, rfl, _, rfl, y, rfl, hz', _, rfl, _, _, rfl, rfl, by omega, _, rfl, _, rfl, _, _, rfl, rfl, _, rfl, y, rfl, hz', _, _, rfl, rfl, by rw [appLen]; omega, q _ _ (by rw [appLen, appLen]; omega) sm⟩
    refine ⟨_, rfl, rfl, _, rfl, iteVi (fun _ => ?_) (fun _ => ?_)⟩
    · exact ⟨_, rfl, _, rfl, _, _, rfl, rfl, by omega, q _ _ (by rw [appLen]; omega) sm⟩
    exact ⟨_, rfl, _, rfl, _, rfl, y, rfl, hz', _, rfl, _, rfl, _, _, rfl, rfl, _, rfl, y, rfl, hz', _, _, rfl, rfl, by omega, q _ _ (by rw [appLen]; omega) sm⟩

theorem ok_law_other {C : Nat → Addr} (T : Tx K mg C) {f : Addr} {fd : FuncData} (F : Fun K "_law_other" "_law_other" s_law_other f fd) : FnOkH P w K mg base 1 f fd psOther (spOther14 C) := by
  refine F.okH scOther (fun vs H Q E h => ?_) (fun cdv A outer s H vs Q E y hr h => ?_)
  · obtain ⟨x, rfl, _⟩ := h
    rfl
  · obtain ⟨x, rfl, hx, q⟩ := h
    refine ⟨_, QSs.h (qss_cons (qs_set (i := 1) scOther.nd rfl (Or.inl rfl) (pe_lst (pa_cons (pe_callB (call_instXK (K := K) rfl) (by rfl) T.inst PyProof.Rows.boot_isinstance (pa_cons (pv 0) (pa_cons (pgl_ref T.c_Clash) pa_nil))) (pa_cons (pe_callB (call_instXK (K := K) rfl) (by rfl) T.inst PyProof.Rows.boot_isinstance (pa_cons (pv 0) (pa_cons (pgl_ref T.c_Double) pa_nil))) (pa_cons (pe_callB (call_instXK (K := K) rfl) (by rfl) T.inst PyProof.Rows.boot_isinstance (pa_cons (pv 0) (pa_cons (pgl_ref T.c_Fault) pa_nil))) (pa_cons (pe_callB (call_instXK (K := K) rfl) (by rfl) T.inst PyProof.Rows.boot_isinstance (pa_cons (pv 0) (pa_cons (pgl_ref T.c_NoDrop) pa_nil))) pa_nil))))))
      (qss_cons (qs_set (i := 1) scOther.nd rfl (Or.inl rfl) (pe_op op_cat (pv 1) (pe_lst (pa_cons (pe_callB (call_instXK (K := K) rfl) (by rfl) T.inst PyProof.Rows.boot_isinstance (pa_cons (pv 0) (pa_cons (pgl_ref T.c_NoName) pa_nil))) (pa_cons (pe_callB (call_instXK (K := K) rfl) (by rfl) T.inst PyProof.Rows.boot_isinstance (pa_cons (pv 0) (pa_cons (pgl_ref T.c_NoPart) pa_nil))) (pa_cons (pe_callB (call_instXK (K := K) rfl) (by rfl) T.inst PyProof.Rows.boot_isinstance (pa_cons (pv 0) (pa_cons (pgl_ref T.c_NoRow) pa_nil))) (pa_cons (pe_callB (call_instXK (K := K) rfl) (by rfl) T.inst PyProof.Rows.boot_isinstance (pa_cons (pv 0) (pa_cons (pgl_ref T.c_NoText) pa_nil))) pa_nil)))))))
      (qss_cons (qs_set (i := 1) scOther.nd rfl (Or.inl rfl) (pe_op op_cat (pv 1) (pe_lst (pa_cons (pe_callB (call_instXK (K := K) rfl) (by rfl) T.inst PyProof.Rows.boot_isinstance (pa_cons (pv 0) (pa_cons (pgl_ref T.c_Orphan) pa_nil))) (pa_cons (pe_callB (call_instXK (K := K) rfl) (by rfl) T.inst PyProof.Rows.boot_isinstance (pa_cons (pv 0) (pa_cons (pgl_ref T.c_TooMany) pa_nil))) (pa_cons (pe_callB (call_instXK (K := K) rfl) (by rfl) T.inst PyProof.Rows.boot_isinstance (pa_cons (pv 0) (pa_cons (pgl_ref T.c_TooWide) pa_nil))) (pa_cons (pe_callB (call_instXK (K := K) rfl) (by rfl) T.inst PyProof.Rows.boot_isinstance (pa_cons (pv 0) (pa_cons (pgl_ref T.c_Twice) pa_nil))) pa_nil)))))))
      (qss_one (qs_ret (pe_cmpR (op_inK (K := K) rfl) pe_bl (pv 1) (by rfl))))))), ?_⟩
    have hd : ∀ {H' : Hp}, Same H H' → ∀ p', (none : Option Addr) = some p' → ∃ fs, H' p' = some (XdO p' fs) := fun s p' e => by cases e
    have s0 := Same.refl H
    refine ⟨_, rfl, _, x, C 21, none, _, _, _, rfl, rfl, s0 _ _ hx, hd s0, T.xf.x, T.xf.k 23 (by decide) (by decide), _, rfl, _, x, C 21, none, _, _, _, rfl, rfl, s0 _ _ hx, hd s0, T.xf.x, T.xf.k 24 (by decide) (by decide), _, rfl, _, x, C 21, none, _, _, _, rfl, rfl, s0 _ _ hx, hd s0, T.xf.x, T.xf.k 25 (by decide) (by decide), _, rfl, _, x, C 21, none, _, _, _, rfl, rfl, s0 _ _ hx, hd s0, T.xf.x, T.xf.k 26 (by decide) (by decide), by show 4 ≤ sizeLine; decide, fun l1 hl1 => ?_⟩
    have s1 : Same H (upd H l1 (.lst [V.bl false, V.bl false, V.bl false, V.bl false])) := Same.new hl1
    have k1 : upd H l1 (.lst [V.bl false, V.bl false, V.bl false, V.bl false]) l1 = some (.lst [V.bl false, V.bl false, V.bl false, V.bl false]) := upd_same
    refine ⟨_, rfl, _, rfl, _, x, C 21, none, _, _, _, rfl, rfl, s1 _ _ hx, hd s1, T.xf.x, T.xf.k 27 (by decide) (by decide), _, rfl, _, x, C 21, none, _, _, _, rfl, rfl, s1 _ _ hx, hd s1, T.xf.x, T.xf.k 28 (by decide) (by decide), _, rfl, _, x, C 21, none, _, _, _, rfl, rfl, s1 _ _ hx, hd s1, T.xf.x, T.xf.k 29 (by decide) (by decide), _, rfl, _, x, C 21, none, _, _, _, rfl, rfl, s1 _ _ hx, hd s1, T.xf.x, T.xf.k 22 (by decide) (by decide), by show 4 ≤ sizeLine; decide, fun l2 hl2 => ?_⟩
    refine ⟨l1, l2, _, _, rfl, rfl, (Same.new hl2) _ _ k1, upd_same, by show 8 ≤ sizeLine; decide, fun l3 hl3 => ?_⟩
    have s3 := (s1.put hl2 (o := .lst [V.bl false, V.bl false, V.bl false, V.bl false])).put hl3 (o := .lst ([V.bl false, V.bl false, V.bl false, V.bl false] ++ [V.bl false, V.bl false, V.bl false, V.bl false]))
    have k3 : upd (upd (upd H l1 (.lst [V.bl false, V.bl false, V.bl false, V.bl false])) l2 (.lst [V.bl false, V.bl false, V.bl false, V.bl false])) l3 (.lst ([V.bl false, V.bl false, V.bl false, V.bl false] ++ [V.bl false, V.bl false, V.bl false, V.bl false])) l3 = some (.lst ([V.bl false, V.bl false, V.bl false, V.bl false] ++ [V.bl false, V.bl false, V.bl false, V.bl false])) := upd_same
    refine ⟨_, rfl, _, rfl, _, x, C 21, none, _, _, _, rfl, rfl, s3 _ _ hx, hd s3, T.xf.x, T.xf.k 30 (by decide) (by decide), _, rfl, _, x, C 21, none, _, _, _, rfl, rfl, s3 _ _ hx, hd s3, T.xf.x, T.xf.k 31 (by decide) (by decide), _, rfl, _, x, C 21, none, _, _, _, rfl, rfl, s3 _ _ hx, hd s3, T.xf.x, T.xf.k 32 (by decide) (by decide), _, rfl, _, x, C 21, none, _, _, _, rfl, rfl, s3 _ _ hx, hd s3, T.xf.x, T.xf.k 33 (by decide) (by decide), by show 4 ≤ sizeLine; decide, fun l4 hl4 => ?_⟩
    refine ⟨l3, l4, _, _, rfl, rfl, (Same.new hl4) _ _ k3, upd_same, by show 12 ≤ sizeLine; decide, fun l5 hl5 => ?_⟩
    exact ⟨_, rfl, l5, _, rfl, .inl (SqL.of upd_same), rfl, rfl, q _ ((s3.put hl4).put hl5)⟩

theorem ok_law_refused {C : Nat → Addr} (T : Tx K mg C) {f : Addr} {fd : FuncData} (F : Fun K "_law_refused" "_law_refused" s_law_refused f fd) : FnOkG P w K mg base CX0 6 f fd psRefused (spRefused14 K) := by
  obtain ⟨f_read_expr, fd_read_expr, A_read_expr⟩ := T.a_read_expr
  have G_read_expr : FnOkG P w K mg base (CX1 P w) 5 f_read_expr fd_read_expr psPReadExpr (spRead14 K C) := ok_read_expr T A_read_expr.F
  obtain ⟨f_law_other, fd_law_other, A_law_other⟩ := T.a_law_other
  have G_law_other : FnOkH P w K mg base 1 f_law_other fd_law_other psOther (spOther14 C) := ok_law_other T A_law_other.F
  refine F.okG scRefused (fun vs H Q E h => ?_) (fun cdv A outer s H vs Q E hr hs h => ?_)
  · obtain ⟨v, rfl, _⟩ := h
    rfl
  · obtain ⟨v, rfl, h, q⟩ := h
    have hr1 : RoomG 1 _ := hr.mono (by decide)
    have hr5 : RoomG 5 _ := hr
    refine ⟨_, QSs.h (qss_cons (qs_tryAs (i := 1) T.x_HouseError T.c_HouseError scRefused.nd rfl rfl rfl rfl (fun pins E W hw => (qss_one (qs_expr (pcallXG A_read_expr G_read_expr hr5 hw (pa_cons (pv 0) pa_nil))))) qss_nil (fun x pins => (qss_one (qs_ret (pe_and (pe_callB (call_instXK (K := K) rfl) (by rfl) T.inst PyProof.Rows.boot_isinstance (pa_cons (pv 1) (pa_cons (pgl_ref T.c_NoExpr) pa_nil))) (pe_and (pe_callB (call_instXK (K := K) rfl) (by rfl) T.inst PyProof.Rows.boot_isinstance (pa_cons (pv 1) (pa_cons (pe_bltn (v := .ty "ValueError") (by rfl) T.t_ValueError boot_ValueError rfl) pa_nil))) (pe_one (pe_not (pcallH A_law_other G_law_other hr1 hs (pa_cons (pv 1) pa_nil))))))))))
      (qss_one (qs_ret pe_bl))), ?_⟩
    rcases h with ⟨z, rfl, hz, nr⟩ | nt
    · refine ⟨_, rfl, _, rfl, .inl ⟨z, rfl, hz, fun ts g e => absurd ⟨ts, g, e⟩ nr, fun _ x H' s' hx0 ex => ?_⟩⟩
      refine ⟨x, C 21, none, rfl, ex, T.xf.s20, ?_⟩
      refine ⟨_, rfl, _, x, C 21, none, _, _, _, rfl, rfl, ex, (fun p' e => by cases e), T.xf.x, T.xf.k 21 (by decide) (by decide), _, rfl, iteT ?_⟩
      refine ⟨_, rfl, _, x, C 21, none, _, _, _, rfl, rfl, ex, (fun p' e => by cases e), T.xf.x, T.xf.v, _, rfl, iteT ?_⟩
      exact ⟨_, rfl, x, rfl, ex, fun H2 s2 => ⟨_, rfl, q H2 (s'.trans s2)⟩⟩
    · refine ⟨_, rfl, _, rfl, .inr ⟨nt, fun x H' s' hx0 ex => ?_⟩⟩
      refine ⟨x, C 21, none, rfl, ex, T.xf.s20, ?_⟩
      refine ⟨_, rfl, _, x, C 21, none, _, _, _, rfl, rfl, ex, (fun p' e => by cases e), T.xf.x, T.xf.k 21 (by decide) (by decide), _, rfl, iteT ?_⟩
      refine ⟨_, rfl, _, x, C 21, none, _, _, _, rfl, rfl, ex, (fun p' e => by cases e), T.xf.x, T.xf.v, _, rfl, iteT ?_⟩
      exact ⟨_, rfl, x, rfl, ex, fun H2 s2 => ⟨_, rfl, q H2 (s'.trans s2)⟩⟩

theorem ok_law_taken {C : Nat → Addr} (T : Tx K mg C) {f : Addr} {fd : FuncData} (F : Fun K "_law_taken" "_law_taken" s_law_taken f fd) : FnOk P w K mg base CX0 7 f fd psTaken spTaken6 := by
  obtain ⟨f_law_read, fd_law_read, A_law_read⟩ := T.a_law_read
  have G_law_read : FnOk P w K mg base CX0 3 f_law_read fd_law_read psRead spLR14 := ok_law_read T A_law_read.F
  obtain ⟨f_read_expr, fd_read_expr, A_read_expr⟩ := T.a_read_expr
  have G_read_expr : FnOk P w K mg base (CX1 P w) 5 f_read_expr fd_read_expr psPReadExpr (spRead14 K C) := (ok_read_expr T A_read_expr.F).ok
  obtain ⟨f_law_refused, fd_law_refused, A_law_refused⟩ := T.a_law_refused
  have G_law_refused : FnOk P w K mg base CX0 6 f_law_refused fd_law_refused psRefused (spRefused14 K) := (ok_law_refused T A_law_refused.F).ok
  refine F.ok scTaken (fun vs H Q E h => ?_) (fun cdv A outer s H vs Q E hr h => ?_)
  · obtain ⟨z, rfl, _⟩ := h
    rfl
  · obtain ⟨z, rfl, hz, q⟩ := h
    have hr3 : Room 3 _ := hr.mono (by decide)
    have hr5 : Room 5 _ := hr.mono (by decide)
    have hr6 : Room 6 _ := hr
    refine ⟨_, QSs.h (qss_cons (qs_set (i := 1) scTaken.nd rfl (Or.inl rfl) (pcall A_law_read G_law_read hr3 (pa_cons (pv 0) pa_nil)))
      (qss_cons (qs_set (i := 2) scTaken.nd rfl (Or.inl rfl) pe_non)
      (qss_cons (qs_tryQ hr.hd T.x_NoExpr T.c_NoExpr rfl rfl (fun pins E W hw => (qss_one (qs_set (i := 2) scTaken.nd rfl (Or.inl rfl) (pcallX A_read_expr G_read_expr hr5 hw (pa_cons (pv 0) pa_nil))))) qss_nil (fun x pins => (qss_one (qs_ret (pe_and (pe_cmpR op_isN (pv 1) pe_non (nomark _)) (pe_one (pcallQ (y := x) A_law_refused (fun base => ok_law_refused (base := base) T A_law_refused.F) hr6.g (pa_cons (pv 0) pa_nil))))))))
      (qss_one (qs_ret (pe_and (pe_cmpR op_notN (pv 1) pe_non (nomark _)) (pe_and (pe_callB call_inst (by rfl) T.inst PyProof.Rows.boot_isinstance (pa_cons (pv 2) (pa_cons (pe_bltn (v := .ty "list") (by rfl) T.t_list PyProof.Rows.boot_list rfl) pa_nil))) (pe_one (pe_cmpR (op_eqD (K := K) rfl hr.units) (pv 2) (pv 1) (nomark _)))))))))), ?_⟩
    refine ⟨_, rfl, z, rfl, hz, fun ts g e L H1 hL s1 htm => ?_, fun nr H1 s1 => ?_⟩
    · refine ⟨_, rfl, _, rfl, .inl ⟨z, rfl, hz, fun ts2 g2 e2 l2 H2 hl2 s2 htm2 => ?_, fun nr => absurd ⟨ts, g, e⟩ nr⟩⟩
      have : ts2 = ts := wordsOf_inj g2 g (e2.symm.trans e)
      subst this
      obtain ⟨xs, hx, _⟩ := id htm2
      refine ⟨_, rfl, rfl, _, rfl, iteTb (by rw [decide_eq_false (fun k => by cases k)]; rfl) ?_⟩
      refine ⟨_, rfl, _, _, _, _, rfl, .lst hx, kit_same, _, rfl, iteT ?_⟩
      exact ⟨_, rfl, _, rfl, l2, L, rfl, rfl, tms_dsq htm2 (htm.same s2), q H2 (s1.trans s2)⟩
    · refine ⟨_, rfl, _, rfl, .inl ⟨z, rfl, hz, fun ts g e => absurd ⟨ts, g, e⟩ nr, fun _ x H2 s2 hx0 ex => ?_⟩⟩
      refine ⟨x, C 21, none, rfl, ex, T.xf.s21, ?_⟩
      refine ⟨_, rfl, rfl, _, rfl, iteTb (decide_eq_true rfl) ?_⟩
      refine ⟨_, rfl, C 21, none, upd_same, .str z, rfl, .inl ⟨z, rfl, hz, nr⟩, fun H3 s3 hy => ?_⟩
      have s4 := same_untr (H := upd H2 x (ExN x (C 21) none)) upd_same s3
      refine q _ fun b o e => s4 b o ?_
      have hb : b ≠ x := fun z => by rw [z, s1.free hx0] at e; cases e
      rw [upd_ne hb]
      exact s2 b o (s1 b o e)

theorem ok_law {C : Nat → Addr} (T : Tx K mg C) {f : Addr} {fd : FuncData} (F : Fun K "law" "law" s_law f fd) : FnOk P w K mg base CX0 8 f fd psLaw (spLaw K) := by
  obtain ⟨f_law_cell, fd_law_cell, A_law_cell⟩ := T.a_law_cell
  have G_law_cell : FnOk P w K mg base CX0 1 f_law_cell fd_law_cell psCell (spCell K) := ok_cell A_law_cell.F T.len
  obtain ⟨f_law_text, fd_law_text, A_law_text⟩ := T.a_law_text
  have G_law_text : FnOk P w K mg base CX0 2 f_law_text fd_law_text psText spText := ok_law_text T A_law_text.F
  obtain ⟨f_law_worded, fd_law_worded, A_law_worded⟩ := T.a_law_worded
  have G_law_worded : FnOk P w K mg base CX0 2 f_law_worded fd_law_worded psWorded spWorded := ok_law_worded T A_law_worded.F
  obtain ⟨f_law_refused, fd_law_refused, A_law_refused⟩ := T.a_law_refused
  have G_law_refused : FnOk P w K mg base CX0 6 f_law_refused fd_law_refused psRefused (spRefused14 K) := (ok_law_refused T A_law_refused.F).ok
  obtain ⟨f_law_taken, fd_law_taken, A_law_taken⟩ := T.a_law_taken
  have G_law_taken : FnOk P w K mg base CX0 7 f_law_taken fd_law_taken psTaken spTaken6 := ok_law_taken T A_law_taken.F
  obtain ⟨f_law_terms, fd_law_terms, A_law_terms⟩ := T.a_law_terms
  have G_law_terms : FnOk P w K mg base CX0 4 f_law_terms fd_law_terms psTerms spTerms := ok_law_terms T A_law_terms.F
  obtain ⟨f_law_sub, fd_law_sub, A_law_sub⟩ := T.a_law_sub
  have G_law_sub : FnOk P w K mg base CX0 1 f_law_sub fd_law_sub psSub spSub := ok_sub A_law_sub.F
  obtain ⟨f_law_signed, fd_law_signed, A_law_signed⟩ := T.a_law_signed
  have G_law_signed : FnOk P w K mg base CX0 2 f_law_signed fd_law_signed psSigned spSigned := ok_law_signed T A_law_signed.F
  obtain ⟨f_law_pick, fd_law_pick, A_law_pick⟩ := T.a_law_pick
  have G_law_pick : FnOk P w K mg base CX0 1 f_law_pick fd_law_pick psPick spPick := ok_pick A_law_pick.F
  refine F.ok scLaw (fun vs H Q E h => ?_) (fun cdv A outer s H vs Q E hr h => ?_)
  · obtain ⟨a, ns, rfl, _⟩ := h
    rfl
  · obtain ⟨a, ns, rfl, hS, hlen, q⟩ := h
    have hr1 : Room 1 _ := hr.mono (by decide)
    have hr2 : Room 2 _ := hr.mono (by decide)
    have hr4 : Room 4 _ := hr.mono (by decide)
    have hr6 : Room 6 _ := hr.mono (by decide)
    have hr7 : Room 7 _ := hr
    refine ex_of ((qss_cons (qs_for PassesOwn.never rfl (pi_range1 (by rfl) T.range (pa_cons (pe_callB (call_max2 hr.hd) (by rfl) T.max PyProof.Rows.boot_max (pa_cons pe_int (pa_cons (pe_callB (call_min2 hr.hd) (by rfl) T.min PyProof.Rows.boot_min (pa_cons (pe_callB call_len_seq (by rfl) T.len PySem.boot_len (pa_cons (pv 0) pa_nil)) (pa_cons pe_int pa_nil))) pa_nil))) pa_nil)) (pg_name (i := 1) scLaw.nd rfl (Or.inl rfl))
      (qss_cons (qs_set (i := 2) scLaw.nd rfl (Or.inl rfl) (pcall A_law_cell G_law_cell hr1 (pa_cons (pv 0) (pa_cons (pv 1) pa_nil))))
      (qss_cons (qs_set (i := 3) scLaw.nd rfl (Or.inl rfl) (pcall A_law_text G_law_text hr2 (pa_cons (pcall A_law_terms G_law_terms hr4 (pa_cons (pv 2) pa_nil)) pa_nil)))
      (qss_cons (qs_set (i := 4) scLaw.nd rfl (Or.inl rfl) (pcall A_law_worded G_law_worded hr2 (pa_cons (pe_bm PySem.F.plainAttrs_str PySem.F.slot_str_split PySem.F.type_str_split mt_split (pv 3) (pa_cons pe_str pa_nil)) (pa_cons (pcall A_law_sub G_law_sub hr1 (pa_cons (pv 2) (pa_cons pe_int pa_nil))) pa_nil))))
      (qss_cons (qs_for PassesOwn.never rfl (pi_list (pe_lst (pa_cons (pcall A_law_signed G_law_signed hr2 (pa_cons (pv 3) (pa_cons (pv 2) pa_nil))) (pa_cons (pe_bm PySem.F.plainAttrs_str PySem.F.slot_str_join PySem.F.type_str_join mt_join pe_str (pa_cons (pv 4) pa_nil)) (pa_cons (pcall A_law_signed G_law_signed hr2 (pa_cons (pv 3) (pa_cons (pcall A_law_sub G_law_sub hr1 (pa_cons (pv 2) (pa_cons pe_int pa_nil))) pa_nil))) (pa_cons (pv 3) pa_nil)))))) (pg_name (i := 5) scLaw.nd rfl (Or.inl rfl))
      (qss_one (qs_if (pt_not (pt_val (pcall A_law_taken G_law_taken hr7 (pa_cons (pv 5) pa_nil)))) (qss_one (qs_ret pe_bl)) qss_nil)))
      (qss_cons (qs_setQ (i := 6) scLaw.nd rfl (Or.inl rfl) (qe_ix ix_list (qe_lstQ (qa_cons pe_non (qa_cons pe_int (qa_cons pe_bl (qa_cons (pe_lst (pa_cons pe_str pa_nil)) (qa_cons (pe_tup (pa_cons pe_str pa_nil)) (qa_cons pe_dnewK (qa_cons pe_int (qa_cons (pe_lst pa_nil) (qa_cons (pe_un un_neg pe_int) (qa_cons (pe_lst (pa_cons pe_str (pa_cons pe_str (pa_cons pe_str pa_nil)))) qa_nil))))))))))) (pcall A_law_pick G_law_pick hr1 (pa_cons (pv 2) (pa_cons pe_int (pa_cons pe_int pa_nil)))) (fun _ _ => rfl)))
      (qss_one (qs_if (pt_not (pt_val (pcall A_law_refused G_law_refused hr6 (pa_cons (pv 6) pa_nil)))) (qss_one (qs_ret pe_bl)) qss_nil))))))))
      (qss_cons (qs_if (PW.pt (pw_or (pt_not (pt_val (pcall A_law_refused G_law_refused hr6 (pa_cons (pe_op op_rep_str pe_str pe_int) pa_nil)))) (pw_or1 (pt_not (pt_val (pcall A_law_refused G_law_refused hr6 (pa_cons (pe_op op_add_str pe_str (pe_op op_rep_str pe_str pe_int)) pa_nil))))))) (qss_one (qs_ret pe_bl)) qss_nil)
      (qss_one (qs_ret (pe_and (pcall A_law_refused G_law_refused hr6 (pa_cons pe_str pa_nil)) (pe_and (pcall A_law_refused G_law_refused hr6 (pa_cons pe_str pa_nil)) (pe_and (pcall A_law_refused G_law_refused hr6 (pa_cons pe_str pa_nil)) (pe_and (pcall A_law_taken G_law_taken hr7 (pa_cons pe_str pa_nil)) (pe_one (pcall A_law_taken G_law_taken hr7 (pa_cons pe_str pa_nil)))))))))))) ?_
    refine ⟨_, rfl, a, _, rfl, .inl hS, _, _, rfl, _, _, rfl, _, rfl, ?_, ?_, ?_⟩
    · split <;> split <;> omega
    · rw [List.length_map]; split <;> split <;> omega
    refine for_range (fun i σ H2 => ∃ v1 v2 v3 v4 v5 v6, σ = [some (.ref a), v1, v2, v3, v4, v5, v6] ∧ Same H H2) ⟨none, none, none, none, none, none, rfl, Same.refl _⟩ ?_ ?_
    · rintro i σ H2 hi ⟨v1, v2, v3, v4, v5, v6, rfl, sm⟩
      refine ⟨_, rfl, _, rfl, a, ns, 0 + (i : Int), rfl, sm.seq hS, by omega, fun H3 s3 => ?_⟩
      generalize cell ns (0 + (i : Int)) = c
      refine ⟨_, rfl, c, rfl, fun L H4 ts s4 hg htm => ⟨L, ts, rfl, htm, hg, fun H7 s7 => ?_⟩⟩
      have tl := text_le hg
      have tp := text_pos hg
      generalize textOf ts = z at tl tp
      have s07 : Same H H7 := sm.trans (s3.trans (s4.trans s7))
      refine ⟨_, rfl, rfl, _, _, rfl, rfl, blanklen0, Nat.le_trans (show z.length + 2 ≤ 6002 by omega) (by decide), fun p hp => ⟨_, rfl, c, 32, rfl, by decide, by decide, fun H6 s6 => ⟨p, _, _, rfl, s6 _ _ upd_same, (by rw [blank_eq]; exact split_ne _ _), by rw [tot_split]; omega, fun p2 ys H8 s8 hy ht => ?_⟩⟩⟩
      have s08 : Same H H8 := s07.trans ((Same.new hp).trans (s6.trans s8))
      refine ⟨_, rfl, _, rfl, z, c, rfl, tp, by omega, fun y1 H9 l9 s9 => ?_⟩
      refine ⟨rfl, _, rfl, _, p2, ys, rfl, rfl, .inl (SqL.of (s9 _ _ hy)), by unfold tot at ht; rw [blanklen]; omega, ?_⟩
      have jl : (Txt.join (" " : Str) ys).length ≤ 5800 := Nat.le_trans join_le ht
      generalize Txt.join (" " : Str) ys = y at jl
      refine ⟨_, rfl, _, rfl, c, 33, rfl, by decide, by decide, fun H10 s10 => ⟨z, _, rfl, tp, by omega, fun y2 H11 l11 s11 => ⟨_, rfl, by show 4 ≤ sizeLine; decide, fun A hA => ?_⟩⟩⟩
      have hA2 : upd H11 A (.lst ([y1, y, y2, z].map V.str)) A = some (.lst ([y1, y, y2, z].map V.str)) := upd_same
      have s12 : Same H (upd H11 A (.lst ([y1, y, y2, z].map V.str))) := (s08.trans (s9.trans (s10.trans s11))).put hA
      have h4 : ∀ u ∈ [y1, y, y2, z], u.length ≤ 6000 := fun u hu => by
        simp only [List.mem_cons, List.not_mem_nil, or_false] at hu
        rcases hu with rfl | rfl | rfl | rfl <;> omega
      refine ⟨A, rfl, ⟨_, SqL.of hA2⟩, ?_⟩
      refine for_list (xs := [y1, y, y2, z].map V.str) (fun j σ H' => ∃ w1 w3 w4 w5 w6, σ = [some (.ref a), w1, some (.int c), w3, w4, w5, w6] ∧ Same H H' ∧ H' A = some (.lst ([y1, y, y2, z].map V.str))) ⟨_, _, _, _, _, rfl, s12, hA2⟩ ?_ ?_ ?_
      · rintro j σ H' _ ⟨w1, w3, w4, w5, w6, rfl, sj, hj⟩
        exact SqL.of hj
      · rintro j x σ H13 hx ⟨w1, w3, w4, w5, w6, rfl, sj, hj⟩
        obtain ⟨u, hu, rfl⟩ := List.mem_map.mp (List.mem_of_getElem? hx)
        exact ⟨_, rfl, u, rfl, h4 u hu, fun H14 s14 => ⟨_, rfl, iteF ⟨_, _, _, _, _, rfl, sj.trans s14, s14 _ _ hj⟩⟩⟩
      · rintro σ H13 ⟨w1, w3, w4, w5, w6, rfl, s13, hj⟩
        refine ⟨by show 1 ≤ sizeLine; decide, fun p1 hp1 => ⟨by show 1 ≤ sizeLine; decide, fun p2 hp2 => ?_⟩⟩
        refine fun p3 hp3 => ⟨by show 0 ≤ sizeLine; decide, fun p4 hp4 => ⟨_, rfl, by show 3 ≤ sizeLine; decide, fun p5 hp5 => ⟨by show 10 ≤ sizeLine; decide, fun A2 hA2 => ?_⟩⟩⟩
        refine ⟨_, rfl, c, 15, 10, rfl, by decide, by decide, by decide, fun H14 s14 => ?_⟩
        have s0e : Same H H14 := ((((((s13.put hp1).put hp2).put hp3).put hp4).put hp5).put hA2).trans s14
        obtain ⟨v, ev, hv⟩ := atI_mem6 (xs := [V.non, .int 5, .bl true, .ref p1, .ref p2, .ref p3, .int 0, .ref p4, .int (-1), .ref p5]) (pick_ge c 15 (m := 10) (by decide)) (pick_lt c 15 (m := 10) (by decide))
        refine ⟨A2, _, _, v, rfl, rfl, SqL.of (s14 _ _ upd_same), ev, ?_⟩
        refine ⟨_, rfl, v, rfl, .inr ?_, fun H15 s15 => ⟨_, rfl, iteF ⟨_, _, _, _, _, _, rfl, s0e.trans s15⟩⟩⟩
        simp only [List.mem_cons, List.not_mem_nil, or_false] at hv
        rcases hv with rfl | rfl | rfl | rfl | rfl | rfl | rfl | rfl | rfl | rfl
        · exact notx_non
        · exact notx_int
        · exact notx_bl
        · exact notx_lst (s14 _ _ ((Same.new hA2) _ _ ((Same.new hp5) _ _ ((Same.new hp4) _ _ ((Same.new hp3) _ _ ((Same.new hp2) _ _ upd_same))))))
        · exact notx_tup (s14 _ _ ((Same.new hA2) _ _ ((Same.new hp5) _ _ ((Same.new hp4) _ _ ((Same.new hp3) _ _ upd_same)))))
        · exact notx_dK (s14 _ _ ((Same.new hA2) _ _ ((Same.new hp5) _ _ ((Same.new hp4) _ _ upd_same))))
        · exact notx_int
        · exact notx_lst (s14 _ _ ((Same.new hA2) _ _ ((Same.new hp5) _ _ upd_same)))
        · exact notx_int
        · exact notx_lst (s14 _ _ ((Same.new hA2) _ _ upd_same))
    · rintro σ H2 ⟨v1, v2, v3, v4, v5, v6, rfl, sm⟩
      refine ⟨_, _, rfl, rfl, (mul1 (by decide +kernel) (by decide) (by decide)).1, _, rfl, .inl ⟨_, rfl, nr7.1, nr7.2⟩, fun H3 s3 => ⟨_, rfl, iteF ?_⟩⟩
      refine ⟨_, _, rfl, rfl, (mul1 (by decide +kernel) (by decide) (by decide)).1, _, _, rfl, rfl, by rw [← appLen]; exact Nat.le_trans nr1.1 (by decide), _, rfl, .inl ⟨_, rfl, nr1.1, nr1.2⟩, fun H4 s4 => ⟨_, rfl, iteF ?_⟩⟩
      exact ⟨_, rfl, .inl ⟨_, rfl, by decide +kernel, nr0⟩, fun H5 s5 => ⟨_, rfl, iteT ⟨_, rfl, .inl ⟨_, rfl, by decide +kernel, nrb⟩, fun H6 s6 => ⟨_, rfl, iteT ⟨_, rfl, .inl ⟨_, rfl, by decide +kernel, nrp⟩, fun H7 s7 => ⟨_, rfl, iteT ⟨_, rfl, by decide +kernel, fun H8 s8 => ⟨_, rfl, iteT ⟨_, rfl, by decide +kernel, fun H9 s9 => q H9⟩⟩⟩⟩⟩⟩⟩⟩⟩

end

noncomputable def FI (K : PySem.W.Frag) (x : Str) (st : Stmt) : Prop := ∃ f fd, PySem.W.nsIn K mainGlobals x = some (some (.ref f)) ∧ Fun K x x st f fd
theorem fi {K : PySem.W.Frag} {x : Str} {st : Stmt} {f : Addr} {oc : Value} {od an : Option Addr} {osl : Array (Option Value)} {kV doc pm cdv ct : Value} (a : PySem.W.nsIn K mainGlobals x = some (some (.ref f))) (l : K.lookup f = some ⟨oc, od, .func (PySem.W.fnOf x x (defArgs st) (defBody st) (defScope st) .none kV doc pm an cdv ct), osl⟩) (c : PySem.W.codeIn K cdv x = true) (k : PySem.W.keepIn K (.ref f) = true) : FI K x st := ⟨f, _, a, fun_mk l c k⟩
noncomputable def BA (x q : Str) (st : Stmt) (ps : List Str) (n : Nat) : Prop := ∀ (kV doc pm : Value) (an : Option Addr) (cdv ct : Value) (us : List Value), us.length = n → bindArgs (PySem.W.fnOf x q (defArgs st) (defBody st) (defScope st) .none kV doc pm an cdv ct) ⟨us, []⟩ = pure (ps.zip us)
theorem ba1 {x q : Str} {st : Stmt} {ps : List Str} (h : ∀ (kV doc pm : Value) (an : Option Addr) (cdv ct a : Value), bindArgs (PySem.W.fnOf x q (defArgs st) (defBody st) (defScope st) .none kV doc pm an cdv ct) ⟨[a], []⟩ = pure (ps.zip [a])) : BA x q st ps 1 := fun _ _ _ _ _ _ us hl => by obtain ⟨a, rfl⟩ := len1 hl; exact h ..
theorem ba2 {x q : Str} {st : Stmt} {ps : List Str} (h : ∀ (kV doc pm : Value) (an : Option Addr) (cdv ct a b : Value), bindArgs (PySem.W.fnOf x q (defArgs st) (defBody st) (defScope st) .none kV doc pm an cdv ct) ⟨[a, b], []⟩ = pure (ps.zip [a, b])) : BA x q st ps 2 := fun _ _ _ _ _ _ us hl => by obtain ⟨a, b, rfl⟩ := len2 hl; exact h ..
theorem ba3 {x q : Str} {st : Stmt} {ps : List Str} (h : ∀ (kV doc pm : Value) (an : Option Addr) (cdv ct a b c : Value), bindArgs (PySem.W.fnOf x q (defArgs st) (defBody st) (defScope st) .none kV doc pm an cdv ct) ⟨[a, b, c], []⟩ = pure (ps.zip [a, b, c])) : BA x q st ps 3 := fun _ _ _ _ _ _ us hl => by obtain ⟨a, b, c, rfl⟩ := len3 hl; exact h ..
theorem fat {K : PySem.W.Frag} {h : Heap} {mg : Str → Option Value} {x : Str} {st : Stmt} {ps : List Str} (X : K.In h) (G : h.Ns mainGlobals mg) (b : BA x x st ps ps.length) (i : FI K x st) : ∃ f fd, FnAt K mg x st ps f fd := by
  obtain ⟨f, fd, a, F⟩ := i
  exact ⟨f, fd, F, F.binds b, PySem.W.mg_of X G a⟩
theorem all_mk {l : PySem.W.OpenLaw} {w : World} {K : PySem.W.Frag} {h : Heap} {mg : Str → Option Value} {fa C21 C22 C23 C24 C25 C26 C27 C28 C29 C30 C31 C32 C33 C20 N20 : Addr} (X : K.In h) (G : h.Ns mainGlobals mg) (hfa : mg "law" = some (.ref fa))
    {nm20 qn20 : Str} {bs20 sub20 : List Value} {sn20 : List Str} {ab20 : Bool} {col20 : Option Bool} {dd20 : Option Addr} {x020 x120 x220 x320 x520 : Option Value} {oN : Value} {dN : Option Addr} {esN : Array DictEntry} {nN : Nat} {slN : Array (Option Value)}
    {tk0 tk1 tk2 tk3 tk4 tk5 : Tok}
    (h0 : FI K "is_name" s_is_name)
    (h1 : FI K "are_names" s_are_names)
    (h2 : FI K "is_number" s_is_number)
    (h3 : FI K "read_path" s_read_path)
    (h4 : FI K "read_term" s_read_term)
    (h5 : FI K "read_sign" s_read_sign)
    (h6 : FI K "read_expr" s_read_expr)
    (h7 : FI K "_law_cell" s_law_cell)
    (h8 : FI K "_law_sub" s_law_sub)
    (h9 : FI K "_law_number" s_law_number)
    (h10 : FI K "_law_pick" s_law_pick)
    (h11 : FI K "_law_name" s_law_name)
    (h12 : FI K "_law_term" s_law_term)
    (h13 : FI K "_law_terms" s_law_terms)
    (h14 : FI K "_law_word" s_law_word)
    (h15 : FI K "_law_text" s_law_text)
    (h16 : FI K "_law_is_name" s_law_is_name)
    (h17 : FI K "_law_read_word" s_law_read_word)
    (h18 : FI K "_law_read" s_law_read)
    (h19 : FI K "_law_worded" s_law_worded)
    (h20 : FI K "_law_signed" s_law_signed)
    (h21 : FI K "_law_other" s_law_other)
    (h22 : FI K "_law_refused" s_law_refused)
    (h23 : FI K "_law_taken" s_law_taken)
    (h24 : FI K "law" s_law)
    (A20 : PySem.W.nsIn K mainGlobals "HouseError" = some (some (.ref C20)))
    (B20 : K.lookup C20 = some (excClassObj nm20 qn20 C20 N20 bs20 veMro true sn20 sub20 ab20 col20 dd20 x020 x120 x220 x320 x520 "ValueError.__new__"))
    (A21 : PySem.W.nsIn K mainGlobals "NoExpr" = some (some (.ref C21)))
    (B21 : ClAt K C21 (.ref C20 :: veMro))
    (A22 : PySem.W.nsIn K mainGlobals "NoText" = some (some (.ref C22)))
    (B22 : ClAt K C22 (.ref C20 :: veMro))
    (A23 : PySem.W.nsIn K mainGlobals "Clash" = some (some (.ref C23)))
    (B23 : ClAt K C23 (.ref C20 :: veMro))
    (A24 : PySem.W.nsIn K mainGlobals "Double" = some (some (.ref C24)))
    (B24 : ClAt K C24 (.ref C20 :: veMro))
    (A25 : PySem.W.nsIn K mainGlobals "Fault" = some (some (.ref C25)))
    (B25 : ClAt K C25 (.ref C20 :: veMro))
    (A26 : PySem.W.nsIn K mainGlobals "NoDrop" = some (some (.ref C26)))
    (B26 : ClAt K C26 (.ref C20 :: veMro))
    (A27 : PySem.W.nsIn K mainGlobals "NoName" = some (some (.ref C27)))
    (B27 : ClAt K C27 (.ref C20 :: veMro))
    (A28 : PySem.W.nsIn K mainGlobals "NoPart" = some (some (.ref C28)))
    (B28 : ClAt K C28 (.ref C20 :: veMro))
    (A29 : PySem.W.nsIn K mainGlobals "NoRow" = some (some (.ref C29)))
    (B29 : ClAt K C29 (.ref C20 :: veMro))
    (A30 : PySem.W.nsIn K mainGlobals "Orphan" = some (some (.ref C30)))
    (B30 : ClAt K C30 (.ref C20 :: veMro))
    (A31 : PySem.W.nsIn K mainGlobals "TooMany" = some (some (.ref C31)))
    (B31 : ClAt K C31 (.ref C20 :: veMro))
    (A32 : PySem.W.nsIn K mainGlobals "TooWide" = some (some (.ref C32)))
    (B32 : ClAt K C32 (.ref C20 :: veMro))
    (A33 : PySem.W.nsIn K mainGlobals "Twice" = some (some (.ref C33)))
    (B33 : ClAt K C33 (.ref C20 :: veMro))
    (E0 : PySem.W.findIn K (.ref C21) "__getattribute__" = some (some (.builtin "BaseException.__getattribute__")))
    (E1 : PySem.W.findIn K (.ref C21) "__getattr__" = some none)
    (E2 : PySem.W.findIn K (.ref C21) "__setattr__" = some (some (.builtin "object.__setattr__")))
    (E3 : PySem.W.findIn K (.ref C21) "__class__" = some (some (.builtin "object.__class__")))
    (iE : PySem.W.findIn K (.ref C21) "__init__" = some (some (.builtin "ValueError.__init__")))
    (kE : PySem.W.keepIn K (.ref C21) = true)
    (NH : K.lookup N20 = some ⟨oN, dN, .dict esN nN, slN⟩)
    (SK : strKeysB esN = true)
    (NI : nsFind esN "__init__" = none)
    (ND : [C20, C21, C22, C23, C24, C25, C26, C27, C28, C29, C30, C31, C32, C33].Nodup)
    (cg : PySem.W.specialIn K (.builtin "object.__class__") "__get__" = some (some (.builtin "getset_descriptor.__get__")))
    (ctk : PySem.W.takesIn K (.builtin "object.__class__") = some true)
    (gc0 : PySem.W.nsIn K mainGlobals "LETTERS" = some (some (.str "abcdefghijklmnopqrstuvwxyz" tk0)))
    (gc1 : PySem.W.nsIn K mainGlobals "MOST_LETTERS" = some (some (.int 8 tk1)))
    (gc2 : PySem.W.nsIn K mainGlobals "FIGURES" = some (some (.str "0123456789" tk2)))
    (gc3 : PySem.W.nsIn K mainGlobals "MOST_FIGURES" = some (some (.int 20 tk3)))
    (gc4 : PySem.W.nsIn K mainGlobals "MOST_TERMS" = some (some (.int 6 tk4)))
    (gc5 : PySem.W.nsIn K mainGlobals "MOST_STEPS" = some (some (.int 4 tk5)))
    (z0 : PySem.W.nsIn K mainGlobals "len" = some none)
    (z1 : PySem.W.nsIn K mainGlobals "range" = some none)
    (z2 : PySem.W.nsIn K mainGlobals "isinstance" = some none)
    (z3 : PySem.W.nsIn K mainGlobals "str" = some none)
    (z4 : PySem.W.nsIn K mainGlobals "int" = some none)
    (z5 : PySem.W.nsIn K mainGlobals "bool" = some none)
    (z6 : PySem.W.nsIn K mainGlobals "list" = some none)
    (z7 : PySem.W.nsIn K mainGlobals "tuple" = some none)
    (z8 : PySem.W.nsIn K mainGlobals "all" = some none)
    (z9 : PySem.W.nsIn K mainGlobals "max" = some none)
    (z10 : PySem.W.nsIn K mainGlobals "min" = some none)
    (z11 : PySem.W.nsIn K mainGlobals "ValueError" = some none) :
    ∃ fd : FuncData, (∀ (s : Shared) (v : Value), BindsTo s fd ⟨[v], []⟩ [("_law_script", v)]) ∧ ∀ base : Heap, K.In base → base.Ns mainGlobals mg → FnOk l.prog w K mg base CX0 8 fa fd ["_law_script"] (spLaw K) := by
  have XF : XFam14 K (fun i => [0, 0, 0, 0, 0, 0, 0, 0, 0, 0, 0, 0, 0, 0, 0, 0, 0, 0, 0, 0, C20, C21, C22, C23, C24, C25, C26, C27, C28, C29, C30, C31, C32, C33].getD i 0) := ⟨cl_cls B21 E0 E1 E2 E3 cg ctk, cl_sub B21, cl_subS B21, all14 (cl_he B21 B20) (cl_self B21) (cl_no B21 B22 (nd_ne ND (i := 2) (j := 0) rfl rfl (by decide)) (nd_ne ND (i := 2) (j := 1) rfl rfl (by decide))) (cl_no B21 B23 (nd_ne ND (i := 3) (j := 0) rfl rfl (by decide)) (nd_ne ND (i := 3) (j := 1) rfl rfl (by decide))) (cl_no B21 B24 (nd_ne ND (i := 4) (j := 0) rfl rfl (by decide)) (nd_ne ND (i := 4) (j := 1) rfl rfl (by decide))) (cl_no B21 B25 (nd_ne ND (i := 5) (j := 0) rfl rfl (by decide)) (nd_ne ND (i := 5) (j := 1) rfl rfl (by decide))) (cl_no B21 B26 (nd_ne ND (i := 6) (j := 0) rfl rfl (by decide)) (nd_ne ND (i := 6) (j := 1) rfl rfl (by decide))) (cl_no B21 B27 (nd_ne ND (i := 7) (j := 0) rfl rfl (by decide)) (nd_ne ND (i := 7) (j := 1) rfl rfl (by decide))) (cl_no B21 B28 (nd_ne ND (i := 8) (j := 0) rfl rfl (by decide)) (nd_ne ND (i := 8) (j := 1) rfl rfl (by decide))) (cl_no B21 B29 (nd_ne ND (i := 9) (j := 0) rfl rfl (by decide)) (nd_ne ND (i := 9) (j := 1) rfl rfl (by decide))) (cl_no B21 B30 (nd_ne ND (i := 10) (j := 0) rfl rfl (by decide)) (nd_ne ND (i := 10) (j := 1) rfl rfl (by decide))) (cl_no B21 B31 (nd_ne ND (i := 11) (j := 0) rfl rfl (by decide)) (nd_ne ND (i := 11) (j := 1) rfl rfl (by decide))) (cl_no B21 B32 (nd_ne ND (i := 12) (j := 0) rfl rfl (by decide)) (nd_ne ND (i := 12) (j := 1) rfl rfl (by decide))) (cl_no B21 B33 (nd_ne ND (i := 13) (j := 0) rfl rfl (by decide)) (nd_ne ND (i := 13) (j := 1) rfl rfl (by decide))), cl_ve B21⟩
  have EX : ∀ {C : Addr}, ClAt K C (.ref C20 :: veMro) → ExC K C := fun {C} l => by
    obtain ⟨_, _, _, _, _, _, _, _, _, _, _, _, _, _, l⟩ := l
    exact exC_sub B20 NH SK NI l
  have TT : Tx K mg (fun i => [0, 0, 0, 0, 0, 0, 0, 0, 0, 0, 0, 0, 0, 0, 0, 0, 0, 0, 0, 0, C20, C21, C22, C23, C24, C25, C26, C27, C28, C29, C30, C31, C32, C33].getD i 0) := ⟨PySem.W.mg_none_of X G z0, PySem.W.mg_none_of X G z1, PySem.W.mg_none_of X G z2, PySem.W.mg_none_of X G z3, PySem.W.mg_none_of X G z4, PySem.W.mg_none_of X G z5, PySem.W.mg_none_of X G z6, PySem.W.mg_none_of X G z7, PySem.W.mg_none_of X G z8, PySem.W.mg_none_of X G z9, PySem.W.mg_none_of X G z10, PySem.W.mg_none_of X G z11, ⟨_, PySem.W.mg_of X G gc0⟩, ⟨_, PySem.W.mg_of X G gc1⟩, ⟨_, PySem.W.mg_of X G gc2⟩, ⟨_, PySem.W.mg_of X G gc3⟩, ⟨_, PySem.W.mg_of X G gc4⟩, ⟨_, PySem.W.mg_of X G gc5⟩, fat X G (ba1 fun _ _ _ _ _ _ _ => rfl) h0, fat X G (ba2 fun _ _ _ _ _ _ _ _ => rfl) h1, fat X G (ba1 fun _ _ _ _ _ _ _ => rfl) h2, fat X G (ba1 fun _ _ _ _ _ _ _ => rfl) h3, fat X G (ba2 fun _ _ _ _ _ _ _ _ => rfl) h4, fat X G (ba1 fun _ _ _ _ _ _ _ => rfl) h5, fat X G (ba1 fun _ _ _ _ _ _ _ => rfl) h6, fat X G (ba2 fun _ _ _ _ _ _ _ _ => rfl) h7, fat X G (ba2 fun _ _ _ _ _ _ _ _ => rfl) h8, fat X G (ba2 fun _ _ _ _ _ _ _ _ => rfl) h9, fat X G (ba3 fun _ _ _ _ _ _ _ _ _ => rfl) h10, fat X G (ba1 fun _ _ _ _ _ _ _ => rfl) h11, fat X G (ba2 fun _ _ _ _ _ _ _ _ => rfl) h12, fat X G (ba1 fun _ _ _ _ _ _ _ => rfl) h13, fat X G (ba1 fun _ _ _ _ _ _ _ => rfl) h14, fat X G (ba1 fun _ _ _ _ _ _ _ => rfl) h15, fat X G (ba1 fun _ _ _ _ _ _ _ => rfl) h16, fat X G (ba2 fun _ _ _ _ _ _ _ _ => rfl) h17, fat X G (ba1 fun _ _ _ _ _ _ _ => rfl) h18, fat X G (ba2 fun _ _ _ _ _ _ _ _ => rfl) h19, fat X G (ba2 fun _ _ _ _ _ _ _ _ => rfl) h20, fat X G (ba1 fun _ _ _ _ _ _ _ => rfl) h21, fat X G (ba1 fun _ _ _ _ _ _ _ => rfl) h22, fat X G (ba1 fun _ _ _ _ _ _ _ => rfl) h23, PySem.W.mg_of X G A20, PySem.W.mg_of X G A21, PySem.W.mg_of X G A22, PySem.W.mg_of X G A23, PySem.W.mg_of X G A24, PySem.W.mg_of X G A25, PySem.W.mg_of X G A26, PySem.W.mg_of X G A27, PySem.W.mg_of X G A28, PySem.W.mg_of X G A29, PySem.W.mg_of X G A30, PySem.W.mg_of X G A31, PySem.W.mg_of X G A32, PySem.W.mg_of X G A33, exC_he B20, EX B21, XF, iE, kE⟩
  obtain ⟨f, fd, a, F⟩ := h24
  cases hfa.symm.trans (PySem.W.mg_of X G a)
  obtain ⟨oc, od, kV, doc, pm, an, cdv, ct, osl, rfl, lk, hcd⟩ := id F.ex
  exact ⟨_, fun s v => .of_eq rfl, fun base _ _ => ok_law TT F⟩

theorem walk {l : PySem.W.OpenLaw} {q : Program} {loose : List Str} {XP : (Str → Option Value) → Heap → Prop} {YP : World → Heap → Prop} {d : DefRec} {K : Params → PySem.W.Frag} (hn : l.most = some 63) (hdf : d.params.defaults = [])
    (hY : ∀ (w : World) (h : Heap), YP w h → (K w.params).In h)
    (F : ∀ (w : World) (mg : Str → Option Value) (fa : Addr) (h : Heap), (K w.params).In h → h.Ns mainGlobals mg → mg d.name = some (.ref fa) →
      ∃ fd : FuncData, (∀ (s : Shared) (u : Value), BindsTo s fd ⟨[u], []⟩ [("_law_script", u)]) ∧ ∀ base : Heap, (K w.params).In base → base.Ns mainGlobals mg → FnOk l.prog w (K w.params) mg base CX0 8 fa fd ["_law_script"] (spLaw (K w.params))) :
    PySem.W.WalkO q loose XP YP l.row.toRowW d [] (fun f vs => PySem.call f vs) :=
  L2.walk_of (n := 63) (k := 8) (x := "_law_script") (CX := fun _ => CX0) (sp := fun w => spLaw (K w.params)) hn (by decide) hdf ⟨rfl, by decide, by decide⟩ hY F (fun _ _ a ns hl _ hS => ⟨a, ns, rfl, hS, hl, fun _ => rfl⟩) fun _ _ _ _ _ _ z => z
open PySem in
open PySem in
noncomputable abbrev kf (s : Stmt) (n q m : Str) (t c : Nat) : Obj := { cls := .type "function", data := .func { name := n, qualname := q, params := L2.defArgs s, body := .stmts (L2.defBody s), scope := L2.defScope s, globals := 3, closure := [], defaults := .none, kwdefaults := .none, pyModule := .str m t, code := .ref c } }
open PySem in
noncomputable abbrev kc (n q : Str) (a b c : Nat) (l k : Int) (f r : Nat) (t : Bool) (g : Int) (u : Nat) (x y z : Value) (v : Nat) (m : Int) (e : Nat) : Obj := { cls := .type "code", data := .fields #[.str n a, .str q b, .str "/claim/cut.py" c, .int l 0, .int k 0, .int 0 0, .int 0 0, .int f 0, .ref r, .bool t, .int g 0, .ref u, x, y, z, .ref v, .int m 0, .int l 0, .str "/claim/cut.py" e] }
noncomputable abbrev k23 (P : PySem.Params) : PySem.Obj := { cls := .type "dict", data := .dict #[⟨PyData.keyHash P "__module__", .str "__module__" 196, .str "drawhouse.errors" 187⟩, ⟨PyData.keyHash P "__firstlineno__", .str "__firstlineno__" 200, .int 2 199⟩, ⟨PyData.keyHash P "__static_attributes__", .str "__static_attributes__" 201, .ref 22⟩, ⟨PyData.keyHash P "__weakref__", .str "__weakref__" 203, .ref 25⟩, ⟨PyData.keyHash P "__doc__", .str "__doc__" 204, .none⟩] 3 }
noncomputable abbrev k24 : PySem.Obj := { cls := .type "type", data := .cls { name := "HouseError", bases := [.type "ValueError"], mro := [.ref 24, .type "ValueError", .type "Exception", .type "BaseException", .type "object"], ns := 23, qualname := "HouseError", subclasses := [.ref 37, .ref 49, .ref 68, .ref 87, .ref 106, .ref 125, .ref 144, .ref 163, .ref 182, .ref 201, .ref 220, .ref 239, .ref 258] }, slots := #[some (.ref 15), none, some (.str "HouseError" 189), some (.str "HouseError" 197), some (.builtin "ValueError.__new__"), some (.bool true)] }
noncomputable abbrev k25 : PySem.Obj := { cls := .type "getset_descriptor", data := .fields #[.str "__weakref__" 202, .ref 24, .builtin "ExceptionGroup.__weakref__", .none] }
noncomputable abbrev k36 (P : PySem.Params) : PySem.Obj := { cls := .type "dict", data := .dict #[⟨PyData.keyHash P "__module__", .str "__module__" 214, .str "drawhouse.errors" 187⟩, ⟨PyData.keyHash P "__firstlineno__", .str "__firstlineno__" 218, .int 4 217⟩, ⟨PyData.keyHash P "__static_attributes__", .str "__static_attributes__" 219, .ref 35⟩, ⟨PyData.keyHash P "__doc__", .str "__doc__" 220, .none⟩] 2 }
noncomputable abbrev k37 : PySem.Obj := { cls := .type "type", data := .cls { name := "NoExpr", bases := [.ref 24], mro := [.ref 37, .ref 24, .type "ValueError", .type "Exception", .type "BaseException", .type "object"], ns := 36, qualname := "NoExpr" }, slots := #[some (.ref 28), none, some (.str "NoExpr" 207), some (.str "NoExpr" 215), some (.builtin "ValueError.__new__"), some (.bool true)] }
noncomputable abbrev k48 (P : PySem.Params) : PySem.Obj := { cls := .type "dict", data := .dict #[⟨PyData.keyHash P "__module__", .str "__module__" 230, .str "drawhouse.errors" 187⟩, ⟨PyData.keyHash P "__firstlineno__", .str "__firstlineno__" 234, .int 6 233⟩, ⟨PyData.keyHash P "__static_attributes__", .str "__static_attributes__" 235, .ref 47⟩, ⟨PyData.keyHash P "__doc__", .str "__doc__" 236, .none⟩] 2 }
noncomputable abbrev k49 : PySem.Obj := { cls := .type "type", data := .cls { name := "TooWide", bases := [.ref 24], mro := [.ref 49, .ref 24, .type "ValueError", .type "Exception", .type "BaseException", .type "object"], ns := 48, qualname := "TooWide" }, slots := #[some (.ref 40), none, some (.str "TooWide" 223), some (.str "TooWide" 231), some (.builtin "ValueError.__new__"), some (.bool true)] }
noncomputable abbrev k64 : PySem.Obj := kc "__init__" "NoText.__init__" 251 252 253 10 2 3 59 true 181 60 .none (.ref 61) (.ref 62) 63 256 257
noncomputable abbrev k65 : PySem.Obj := kf ((Mine.clsBody (Mine.top 4)).getD 0 (.Pass ⟨0, 0, 0, 0⟩)) "__init__" "NoText.__init__" "drawhouse.errors" 187 64
noncomputable abbrev k67 (P : PySem.Params) : PySem.Obj := { cls := .type "dict", data := .dict #[⟨PyData.keyHash P "__module__", .str "__module__" 246, .str "drawhouse.errors" 187⟩, ⟨PyData.keyHash P "__firstlineno__", .str "__firstlineno__" 250, .int 8 249⟩, ⟨PyData.keyHash P "__init__", .str "__init__" 258, .ref 65⟩, ⟨PyData.keyHash P "__static_attributes__", .str "__static_attributes__" 260, .ref 66⟩, ⟨PyData.keyHash P "__doc__", .str "__doc__" 261, .none⟩] 2 }
noncomputable abbrev k68 : PySem.Obj := { cls := .type "type", data := .cls { name := "NoText", bases := [.ref 24], mro := [.ref 68, .ref 24, .type "ValueError", .type "Exception", .type "BaseException", .type "object"], ns := 67, qualname := "NoText" }, slots := #[some (.ref 52), none, some (.str "NoText" 239), some (.str "NoText" 247), some (.builtin "ValueError.__new__"), some (.bool true)] }
noncomputable abbrev k83 : PySem.Obj := kc "__init__" "TooMany.__init__" 276 277 278 15 2 3 78 true 181 79 .none (.ref 80) (.ref 81) 82 281 282
noncomputable abbrev k84 : PySem.Obj := kf ((Mine.clsBody (Mine.top 5)).getD 0 (.Pass ⟨0, 0, 0, 0⟩)) "__init__" "TooMany.__init__" "drawhouse.errors" 187 83
noncomputable abbrev k86 (P : PySem.Params) : PySem.Obj := { cls := .type "dict", data := .dict #[⟨PyData.keyHash P "__module__", .str "__module__" 271, .str "drawhouse.errors" 187⟩, ⟨PyData.keyHash P "__firstlineno__", .str "__firstlineno__" 275, .int 13 274⟩, ⟨PyData.keyHash P "__init__", .str "__init__" 283, .ref 84⟩, ⟨PyData.keyHash P "__static_attributes__", .str "__static_attributes__" 285, .ref 85⟩, ⟨PyData.keyHash P "__doc__", .str "__doc__" 286, .none⟩] 2 }
noncomputable abbrev k87 : PySem.Obj := { cls := .type "type", data := .cls { name := "TooMany", bases := [.ref 24], mro := [.ref 87, .ref 24, .type "ValueError", .type "Exception", .type "BaseException", .type "object"], ns := 86, qualname := "TooMany" }, slots := #[some (.ref 71), none, some (.str "TooMany" 264), some (.str "TooMany" 272), some (.builtin "ValueError.__new__"), some (.bool true)] }
noncomputable abbrev k102 : PySem.Obj := kc "__init__" "Twice.__init__" 301 302 303 20 2 3 97 true 181 98 .none (.ref 99) (.ref 100) 101 306 307
noncomputable abbrev k103 : PySem.Obj := kf ((Mine.clsBody (Mine.top 6)).getD 0 (.Pass ⟨0, 0, 0, 0⟩)) "__init__" "Twice.__init__" "drawhouse.errors" 187 102
noncomputable abbrev k105 (P : PySem.Params) : PySem.Obj := { cls := .type "dict", data := .dict #[⟨PyData.keyHash P "__module__", .str "__module__" 296, .str "drawhouse.errors" 187⟩, ⟨PyData.keyHash P "__firstlineno__", .str "__firstlineno__" 300, .int 18 299⟩, ⟨PyData.keyHash P "__init__", .str "__init__" 308, .ref 103⟩, ⟨PyData.keyHash P "__static_attributes__", .str "__static_attributes__" 310, .ref 104⟩, ⟨PyData.keyHash P "__doc__", .str "__doc__" 311, .none⟩] 2 }
noncomputable abbrev k106 : PySem.Obj := { cls := .type "type", data := .cls { name := "Twice", bases := [.ref 24], mro := [.ref 106, .ref 24, .type "ValueError", .type "Exception", .type "BaseException", .type "object"], ns := 105, qualname := "Twice" }, slots := #[some (.ref 90), none, some (.str "Twice" 289), some (.str "Twice" 297), some (.builtin "ValueError.__new__"), some (.bool true)] }
noncomputable abbrev k121 : PySem.Obj := kc "__init__" "Double.__init__" 326 327 328 25 2 3 116 true 181 117 .none (.ref 118) (.ref 119) 120 331 332
noncomputable abbrev k122 : PySem.Obj := kf ((Mine.clsBody (Mine.top 7)).getD 0 (.Pass ⟨0, 0, 0, 0⟩)) "__init__" "Double.__init__" "drawhouse.errors" 187 121
noncomputable abbrev k124 (P : PySem.Params) : PySem.Obj := { cls := .type "dict", data := .dict #[⟨PyData.keyHash P "__module__", .str "__module__" 321, .str "drawhouse.errors" 187⟩, ⟨PyData.keyHash P "__firstlineno__", .str "__firstlineno__" 325, .int 23 324⟩, ⟨PyData.keyHash P "__init__", .str "__init__" 333, .ref 122⟩, ⟨PyData.keyHash P "__static_attributes__", .str "__static_attributes__" 335, .ref 123⟩, ⟨PyData.keyHash P "__doc__", .str "__doc__" 336, .none⟩] 2 }
noncomputable abbrev k125 : PySem.Obj := { cls := .type "type", data := .cls { name := "Double", bases := [.ref 24], mro := [.ref 125, .ref 24, .type "ValueError", .type "Exception", .type "BaseException", .type "object"], ns := 124, qualname := "Double" }, slots := #[some (.ref 109), none, some (.str "Double" 314), some (.str "Double" 322), some (.builtin "ValueError.__new__"), some (.bool true)] }
noncomputable abbrev k140 : PySem.Obj := kc "__init__" "Orphan.__init__" 351 352 353 30 2 3 135 true 181 136 .none (.ref 137) (.ref 138) 139 356 357
noncomputable abbrev k141 : PySem.Obj := kf ((Mine.clsBody (Mine.top 8)).getD 0 (.Pass ⟨0, 0, 0, 0⟩)) "__init__" "Orphan.__init__" "drawhouse.errors" 187 140
noncomputable abbrev k143 (P : PySem.Params) : PySem.Obj := { cls := .type "dict", data := .dict #[⟨PyData.keyHash P "__module__", .str "__module__" 346, .str "drawhouse.errors" 187⟩, ⟨PyData.keyHash P "__firstlineno__", .str "__firstlineno__" 350, .int 28 349⟩, ⟨PyData.keyHash P "__init__", .str "__init__" 358, .ref 141⟩, ⟨PyData.keyHash P "__static_attributes__", .str "__static_attributes__" 360, .ref 142⟩, ⟨PyData.keyHash P "__doc__", .str "__doc__" 361, .none⟩] 2 }
noncomputable abbrev k144 : PySem.Obj := { cls := .type "type", data := .cls { name := "Orphan", bases := [.ref 24], mro := [.ref 144, .ref 24, .type "ValueError", .type "Exception", .type "BaseException", .type "object"], ns := 143, qualname := "Orphan" }, slots := #[some (.ref 128), none, some (.str "Orphan" 339), some (.str "Orphan" 347), some (.builtin "ValueError.__new__"), some (.bool true)] }
noncomputable abbrev k159 : PySem.Obj := kc "__init__" "Clash.__init__" 376 377 378 35 2 3 154 true 181 155 .none (.ref 156) (.ref 157) 158 381 382
noncomputable abbrev k160 : PySem.Obj := kf ((Mine.clsBody (Mine.top 9)).getD 0 (.Pass ⟨0, 0, 0, 0⟩)) "__init__" "Clash.__init__" "drawhouse.errors" 187 159
noncomputable abbrev k162 (P : PySem.Params) : PySem.Obj := { cls := .type "dict", data := .dict #[⟨PyData.keyHash P "__module__", .str "__module__" 371, .str "drawhouse.errors" 187⟩, ⟨PyData.keyHash P "__firstlineno__", .str "__firstlineno__" 375, .int 33 374⟩, ⟨PyData.keyHash P "__init__", .str "__init__" 383, .ref 160⟩, ⟨PyData.keyHash P "__static_attributes__", .str "__static_attributes__" 385, .ref 161⟩, ⟨PyData.keyHash P "__doc__", .str "__doc__" 386, .none⟩] 2 }
noncomputable abbrev k163 : PySem.Obj := { cls := .type "type", data := .cls { name := "Clash", bases := [.ref 24], mro := [.ref 163, .ref 24, .type "ValueError", .type "Exception", .type "BaseException", .type "object"], ns := 162, qualname := "Clash" }, slots := #[some (.ref 147), none, some (.str "Clash" 364), some (.str "Clash" 372), some (.builtin "ValueError.__new__"), some (.bool true)] }
noncomputable abbrev k178 : PySem.Obj := kc "__init__" "NoRow.__init__" 401 402 403 40 2 3 173 true 181 174 .none (.ref 175) (.ref 176) 177 406 407
noncomputable abbrev k179 : PySem.Obj := kf ((Mine.clsBody (Mine.top 10)).getD 0 (.Pass ⟨0, 0, 0, 0⟩)) "__init__" "NoRow.__init__" "drawhouse.errors" 187 178
noncomputable abbrev k181 (P : PySem.Params) : PySem.Obj := { cls := .type "dict", data := .dict #[⟨PyData.keyHash P "__module__", .str "__module__" 396, .str "drawhouse.errors" 187⟩, ⟨PyData.keyHash P "__firstlineno__", .str "__firstlineno__" 400, .int 38 399⟩, ⟨PyData.keyHash P "__init__", .str "__init__" 408, .ref 179⟩, ⟨PyData.keyHash P "__static_attributes__", .str "__static_attributes__" 410, .ref 180⟩, ⟨PyData.keyHash P "__doc__", .str "__doc__" 411, .none⟩] 2 }
noncomputable abbrev k182 : PySem.Obj := { cls := .type "type", data := .cls { name := "NoRow", bases := [.ref 24], mro := [.ref 182, .ref 24, .type "ValueError", .type "Exception", .type "BaseException", .type "object"], ns := 181, qualname := "NoRow" }, slots := #[some (.ref 166), none, some (.str "NoRow" 389), some (.str "NoRow" 397), some (.builtin "ValueError.__new__"), some (.bool true)] }
noncomputable abbrev k197 : PySem.Obj := kc "__init__" "NoPart.__init__" 426 427 428 45 2 3 192 true 181 193 .none (.ref 194) (.ref 195) 196 431 432
noncomputable abbrev k198 : PySem.Obj := kf ((Mine.clsBody (Mine.top 11)).getD 0 (.Pass ⟨0, 0, 0, 0⟩)) "__init__" "NoPart.__init__" "drawhouse.errors" 187 197
noncomputable abbrev k200 (P : PySem.Params) : PySem.Obj := { cls := .type "dict", data := .dict #[⟨PyData.keyHash P "__module__", .str "__module__" 421, .str "drawhouse.errors" 187⟩, ⟨PyData.keyHash P "__firstlineno__", .str "__firstlineno__" 425, .int 43 424⟩, ⟨PyData.keyHash P "__init__", .str "__init__" 433, .ref 198⟩, ⟨PyData.keyHash P "__static_attributes__", .str "__static_attributes__" 435, .ref 199⟩, ⟨PyData.keyHash P "__doc__", .str "__doc__" 436, .none⟩] 2 }
noncomputable abbrev k201 : PySem.Obj := { cls := .type "type", data := .cls { name := "NoPart", bases := [.ref 24], mro := [.ref 201, .ref 24, .type "ValueError", .type "Exception", .type "BaseException", .type "object"], ns := 200, qualname := "NoPart" }, slots := #[some (.ref 185), none, some (.str "NoPart" 414), some (.str "NoPart" 422), some (.builtin "ValueError.__new__"), some (.bool true)] }
noncomputable abbrev k216 : PySem.Obj := kc "__init__" "NoDrop.__init__" 451 452 453 50 2 3 211 true 181 212 .none (.ref 213) (.ref 214) 215 456 457
noncomputable abbrev k217 : PySem.Obj := kf ((Mine.clsBody (Mine.top 12)).getD 0 (.Pass ⟨0, 0, 0, 0⟩)) "__init__" "NoDrop.__init__" "drawhouse.errors" 187 216
noncomputable abbrev k219 (P : PySem.Params) : PySem.Obj := { cls := .type "dict", data := .dict #[⟨PyData.keyHash P "__module__", .str "__module__" 446, .str "drawhouse.errors" 187⟩, ⟨PyData.keyHash P "__firstlineno__", .str "__firstlineno__" 450, .int 48 449⟩, ⟨PyData.keyHash P "__init__", .str "__init__" 458, .ref 217⟩, ⟨PyData.keyHash P "__static_attributes__", .str "__static_attributes__" 460, .ref 218⟩, ⟨PyData.keyHash P "__doc__", .str "__doc__" 461, .none⟩] 2 }
noncomputable abbrev k220 : PySem.Obj := { cls := .type "type", data := .cls { name := "NoDrop", bases := [.ref 24], mro := [.ref 220, .ref 24, .type "ValueError", .type "Exception", .type "BaseException", .type "object"], ns := 219, qualname := "NoDrop" }, slots := #[some (.ref 204), none, some (.str "NoDrop" 439), some (.str "NoDrop" 447), some (.builtin "ValueError.__new__"), some (.bool true)] }
noncomputable abbrev k235 : PySem.Obj := kc "__init__" "NoName.__init__" 476 477 478 55 2 3 230 true 181 231 .none (.ref 232) (.ref 233) 234 481 482
noncomputable abbrev k236 : PySem.Obj := kf ((Mine.clsBody (Mine.top 13)).getD 0 (.Pass ⟨0, 0, 0, 0⟩)) "__init__" "NoName.__init__" "drawhouse.errors" 187 235
noncomputable abbrev k238 (P : PySem.Params) : PySem.Obj := { cls := .type "dict", data := .dict #[⟨PyData.keyHash P "__module__", .str "__module__" 471, .str "drawhouse.errors" 187⟩, ⟨PyData.keyHash P "__firstlineno__", .str "__firstlineno__" 475, .int 53 474⟩, ⟨PyData.keyHash P "__init__", .str "__init__" 483, .ref 236⟩, ⟨PyData.keyHash P "__static_attributes__", .str "__static_attributes__" 485, .ref 237⟩, ⟨PyData.keyHash P "__doc__", .str "__doc__" 486, .none⟩] 2 }
noncomputable abbrev k239 : PySem.Obj := { cls := .type "type", data := .cls { name := "NoName", bases := [.ref 24], mro := [.ref 239, .ref 24, .type "ValueError", .type "Exception", .type "BaseException", .type "object"], ns := 238, qualname := "NoName" }, slots := #[some (.ref 223), none, some (.str "NoName" 464), some (.str "NoName" 472), some (.builtin "ValueError.__new__"), some (.bool true)] }
noncomputable abbrev k254 : PySem.Obj := kc "__init__" "Fault.__init__" 501 502 503 60 5 3 249 true 181 250 .none (.ref 251) (.ref 252) 253 509 510
noncomputable abbrev k255 : PySem.Obj := kf ((Mine.clsBody (Mine.top 14)).getD 0 (.Pass ⟨0, 0, 0, 0⟩)) "__init__" "Fault.__init__" "drawhouse.errors" 187 254
noncomputable abbrev k257 (P : PySem.Params) : PySem.Obj := { cls := .type "dict", data := .dict #[⟨PyData.keyHash P "__module__", .str "__module__" 496, .str "drawhouse.errors" 187⟩, ⟨PyData.keyHash P "__firstlineno__", .str "__firstlineno__" 500, .int 58 499⟩, ⟨PyData.keyHash P "__init__", .str "__init__" 511, .ref 255⟩, ⟨PyData.keyHash P "__static_attributes__", .str "__static_attributes__" 516, .ref 256⟩, ⟨PyData.keyHash P "__doc__", .str "__doc__" 517, .none⟩] 2 }
noncomputable abbrev k258 : PySem.Obj := { cls := .type "type", data := .cls { name := "Fault", bases := [.ref 24], mro := [.ref 258, .ref 24, .type "ValueError", .type "Exception", .type "BaseException", .type "object"], ns := 257, qualname := "Fault" }, slots := #[some (.ref 242), none, some (.str "Fault" 489), some (.str "Fault" 497), some (.builtin "ValueError.__new__"), some (.bool true)] }
noncomputable abbrev k264 : PySem.Obj := kc "is_name" "is_name" 526 527 528 69 1 3 261 true 181 262 .none .none .none 263 529 530
noncomputable abbrev k265 : PySem.Obj := kf (Mine.top 18) "is_name" "is_name" "drawhouse.words" 520 264
noncomputable abbrev k269 : PySem.Obj := kc "are_names" "are_names" 532 533 534 75 2 3 266 true 181 267 .none .none .none 268 535 536
noncomputable abbrev k270 : PySem.Obj := kf (Mine.top 19) "are_names" "are_names" "drawhouse.words" 520 269
noncomputable abbrev k274 : PySem.Obj := kc "is_number" "is_number" 548 549 550 83 1 3 271 true 181 272 .none .none .none 273 551 552
noncomputable abbrev k275 : PySem.Obj := kf (Mine.top 25) "is_number" "is_number" "drawhouse.exprs" 538 274
noncomputable abbrev k281 : PySem.Obj := kc "read_path" "read_path" 554 555 556 89 1 3 276 true 181 277 .none (.ref 278) (.ref 279) 280 558 559
noncomputable abbrev k282 : PySem.Obj := kf (Mine.top 26) "read_path" "read_path" "drawhouse.exprs" 538 281
noncomputable abbrev k288 : PySem.Obj := kc "read_term" "read_term" 561 562 563 93 2 3 283 true 181 284 .none (.ref 285) (.ref 286) 287 566 567
noncomputable abbrev k289 : PySem.Obj := kf (Mine.top 27) "read_term" "read_term" "drawhouse.exprs" 538 288
noncomputable abbrev k295 : PySem.Obj := kc "read_sign" "read_sign" 569 570 571 99 1 3 290 true 181 291 .none (.ref 292) (.ref 293) 294 573 574
noncomputable abbrev k296 : PySem.Obj := kf (Mine.top 28) "read_sign" "read_sign" "drawhouse.exprs" 538 295
noncomputable abbrev k302 : PySem.Obj := kc "read_expr" "read_expr" 576 577 578 105 1 3 297 true 181 298 .none (.ref 299) (.ref 300) 301 583 584
noncomputable abbrev k303 : PySem.Obj := kf (Mine.top 29) "read_expr" "read_expr" "drawhouse.exprs" 538 302
noncomputable abbrev k309 : PySem.Obj := kc "_law_cell" "_law_cell" 588 589 590 118 2 3 304 true 181 305 .none (.ref 306) (.ref 307) 308 593 594
noncomputable abbrev k310 : PySem.Obj := kf (Mine.top 31) "_law_cell" "_law_cell" "law_drawhouse_k14_no_expressions" 586 309
noncomputable abbrev k316 : PySem.Obj := kc "_law_sub" "_law_sub" 596 597 598 122 2 3 311 true 181 312 .none (.ref 313) (.ref 314) 315 601 602
noncomputable abbrev k317 : PySem.Obj := kf (Mine.top 32) "_law_sub" "_law_sub" "law_drawhouse_k14_no_expressions" 586 316
noncomputable abbrev k323 : PySem.Obj := kc "_law_number" "_law_number" 604 605 606 126 2 3 318 true 181 319 .none (.ref 320) (.ref 321) 322 609 610
noncomputable abbrev k324 : PySem.Obj := kf (Mine.top 33) "_law_number" "_law_number" "law_drawhouse_k14_no_expressions" 586 323
noncomputable abbrev k330 : PySem.Obj := kc "_law_pick" "_law_pick" 612 613 614 130 3 3 325 true 181 326 .none (.ref 327) (.ref 328) 329 621 622
noncomputable abbrev k331 : PySem.Obj := kf (Mine.top 34) "_law_pick" "_law_pick" "law_drawhouse_k14_no_expressions" 586 330
noncomputable abbrev k335 : PySem.Obj := kc "_law_name" "_law_name" 624 625 626 139 1 3 332 true 181 333 .none .none .none 334 627 628
noncomputable abbrev k336 : PySem.Obj := kf (Mine.top 35) "_law_name" "_law_name" "law_drawhouse_k14_no_expressions" 586 335
noncomputable abbrev k340 : PySem.Obj := kc "_law_term" "_law_term" 630 631 632 142 2 3 337 true 181 338 .none .none .none 339 633 634
noncomputable abbrev k341 : PySem.Obj := kf (Mine.top 36) "_law_term" "_law_term" "law_drawhouse_k14_no_expressions" 586 340
noncomputable abbrev k345 : PySem.Obj := kc "_law_terms" "_law_terms" 636 637 638 150 1 3 342 true 181 343 .none .none .none 344 639 640
noncomputable abbrev k346 : PySem.Obj := kf (Mine.top 37) "_law_terms" "_law_terms" "law_drawhouse_k14_no_expressions" 586 345
noncomputable abbrev k352 : PySem.Obj := kc "_law_word" "_law_word" 642 643 644 152 1 3 347 true 181 348 .none (.ref 349) (.ref 350) 351 649 650
noncomputable abbrev k353 : PySem.Obj := kf (Mine.top 38) "_law_word" "_law_word" "law_drawhouse_k14_no_expressions" 586 352
noncomputable abbrev k359 : PySem.Obj := kc "_law_text" "_law_text" 652 653 654 157 1 3 354 true 181 355 .none (.ref 356) (.ref 357) 358 658 659
noncomputable abbrev k360 : PySem.Obj := kf (Mine.top 39) "_law_text" "_law_text" "law_drawhouse_k14_no_expressions" 586 359
noncomputable abbrev k366 : PySem.Obj := kc "_law_is_name" "_law_is_name" 661 662 663 162 1 3 361 true 181 362 .none (.ref 363) (.ref 364) 365 666 667
noncomputable abbrev k367 : PySem.Obj := kf (Mine.top 40) "_law_is_name" "_law_is_name" "law_drawhouse_k14_no_expressions" 586 366
noncomputable abbrev k371 : PySem.Obj := kc "_law_read_word" "_law_read_word" 669 670 671 167 2 3 368 true 181 369 .none .none .none 370 672 673
noncomputable abbrev k372 : PySem.Obj := kf (Mine.top 41) "_law_read_word" "_law_read_word" "law_drawhouse_k14_no_expressions" 586 371
noncomputable abbrev k378 : PySem.Obj := kc "_law_read" "_law_read" 675 676 677 181 1 3 373 true 181 374 .none (.ref 375) (.ref 376) 377 683 684
noncomputable abbrev k379 : PySem.Obj := kf (Mine.top 42) "_law_read" "_law_read" "law_drawhouse_k14_no_expressions" 586 378
noncomputable abbrev k385 : PySem.Obj := kc "_law_worded" "_law_worded" 686 687 688 194 2 3 380 true 181 381 .none (.ref 382) (.ref 383) 384 695 696
noncomputable abbrev k386 : PySem.Obj := kf (Mine.top 43) "_law_worded" "_law_worded" "law_drawhouse_k14_no_expressions" 586 385
noncomputable abbrev k392 : PySem.Obj := kc "_law_signed" "_law_signed" 698 699 700 214 2 3 387 true 181 388 .none (.ref 389) (.ref 390) 391 707 708
noncomputable abbrev k393 : PySem.Obj := kf (Mine.top 44) "_law_signed" "_law_signed" "law_drawhouse_k14_no_expressions" 586 392
noncomputable abbrev k399 : PySem.Obj := kc "_law_other" "_law_other" 710 711 712 226 1 3 394 true 181 395 .none (.ref 396) (.ref 397) 398 715 716
noncomputable abbrev k400 : PySem.Obj := kf (Mine.top 45) "_law_other" "_law_other" "law_drawhouse_k14_no_expressions" 586 399
noncomputable abbrev k406 : PySem.Obj := kc "_law_refused" "_law_refused" 718 719 720 231 1 3 401 true 181 402 .none (.ref 403) (.ref 404) 405 723 724
noncomputable abbrev k407 : PySem.Obj := kf (Mine.top 46) "_law_refused" "_law_refused" "law_drawhouse_k14_no_expressions" 586 406
noncomputable abbrev k413 : PySem.Obj := kc "_law_taken" "_law_taken" 726 727 728 237 1 3 408 true 181 409 .none (.ref 410) (.ref 411) 412 732 733
noncomputable abbrev k414 : PySem.Obj := kf (Mine.top 47) "_law_taken" "_law_taken" "law_drawhouse_k14_no_expressions" 586 413
noncomputable abbrev k420 : PySem.Obj := kc "law" "law" 735 736 737 245 1 3 415 true 181 416 .none (.ref 417) (.ref 418) 419 745 746
noncomputable abbrev k421 : PySem.Obj := kf (Mine.top 48) "law" "law" "law_drawhouse_k14_no_expressions" 586 420
open PySem in
noncomputable def myK : PySem.Params → PySem.W.Frag := fun P =>
  (nat_lit 2, { cls := Value.none, data := Data.dict #[] }) ::
  (nat_lit 3, { cls := .type "dict", data := .dict #[⟨PyData.keyHash P "__name__", .str "__name__" 165, .str "law_drawhouse_k14_no_expressions" 586⟩, ⟨PyData.keyHash P "__doc__", .str "__doc__" 166, .none⟩, ⟨PyData.keyHash P "__package__", .str "__package__" 167, .none⟩, ⟨PyData.keyHash P "__loader__", .str "__loader__" 168, .builtin "__main__.__loader__#opaque"⟩, ⟨PyData.keyHash P "__spec__", .str "__spec__" 169, .none⟩, ⟨PyData.keyHash P "__annotations__", .str "__annotations__" 170, .ref 6⟩, ⟨PyData.keyHash P "__builtins__", .str "__builtins__" 171, .ref 4⟩, ⟨PyData.keyHash P "__file__", .str "__file__" 173, .str "/claim/cut.py" 172⟩, ⟨PyData.keyHash P "__cached__", .str "__cached__" 174, .none⟩, ⟨PyData.keyHash P "HouseError", .str "HouseError" 206, .ref 24⟩, ⟨PyData.keyHash P "NoExpr", .str "NoExpr" 222, .ref 37⟩, ⟨PyData.keyHash P "TooWide", .str "TooWide" 238, .ref 49⟩, ⟨PyData.keyHash P "NoText", .str "NoText" 263, .ref 68⟩, ⟨PyData.keyHash P "TooMany", .str "TooMany" 288, .ref 87⟩, ⟨PyData.keyHash P "Twice", .str "Twice" 313, .ref 106⟩, ⟨PyData.keyHash P "Double", .str "Double" 338, .ref 125⟩, ⟨PyData.keyHash P "Orphan", .str "Orphan" 363, .ref 144⟩, ⟨PyData.keyHash P "Clash", .str "Clash" 388, .ref 163⟩, ⟨PyData.keyHash P "NoRow", .str "NoRow" 413, .ref 182⟩, ⟨PyData.keyHash P "NoPart", .str "NoPart" 438, .ref 201⟩, ⟨PyData.keyHash P "NoDrop", .str "NoDrop" 463, .ref 220⟩, ⟨PyData.keyHash P "NoName", .str "NoName" 488, .ref 239⟩, ⟨PyData.keyHash P "Fault", .str "Fault" 519, .ref 258⟩, ⟨PyData.keyHash P "LETTERS", .str "LETTERS" 523, .str "abcdefghijklmnopqrstuvwxyz" 522⟩, ⟨PyData.keyHash P "MOST_LETTERS", .str "MOST_LETTERS" 525, .int 8 524⟩, ⟨PyData.keyHash P "is_name", .str "is_name" 531, .ref 265⟩, ⟨PyData.keyHash P "are_names", .str "are_names" 537, .ref 270⟩, ⟨PyData.keyHash P "FIGURES", .str "FIGURES" 541, .str "0123456789" 540⟩, ⟨PyData.keyHash P "MOST_FIGURES", .str "MOST_FIGURES" 543, .int 20 542⟩, ⟨PyData.keyHash P "MOST_TERMS", .str "MOST_TERMS" 545, .int 6 544⟩, ⟨PyData.keyHash P "MOST_STEPS", .str "MOST_STEPS" 547, .int 4 546⟩, ⟨PyData.keyHash P "is_number", .str "is_number" 553, .ref 275⟩, ⟨PyData.keyHash P "read_path", .str "read_path" 560, .ref 282⟩, ⟨PyData.keyHash P "read_term", .str "read_term" 568, .ref 289⟩, ⟨PyData.keyHash P "read_sign", .str "read_sign" 575, .ref 296⟩, ⟨PyData.keyHash P "read_expr", .str "read_expr" 585, .ref 303⟩, ⟨PyData.keyHash P "_law_cell", .str "_law_cell" 595, .ref 310⟩, ⟨PyData.keyHash P "_law_sub", .str "_law_sub" 603, .ref 317⟩, ⟨PyData.keyHash P "_law_number", .str "_law_number" 611, .ref 324⟩, ⟨PyData.keyHash P "_law_pick", .str "_law_pick" 623, .ref 331⟩, ⟨PyData.keyHash P "_law_name", .str "_law_name" 629, .ref 336⟩, ⟨PyData.keyHash P "_law_term", .str "_law_term" 635, .ref 341⟩, ⟨PyData.keyHash P "_law_terms", .str "_law_terms" 641, .ref 346⟩, ⟨PyData.keyHash P "_law_word", .str "_law_word" 651, .ref 353⟩, ⟨PyData.keyHash P "_law_text", .str "_law_text" 660, .ref 360⟩, ⟨PyData.keyHash P "_law_is_name", .str "_law_is_name" 668, .ref 367⟩, ⟨PyData.keyHash P "_law_read_word", .str "_law_read_word" 674, .ref 372⟩, ⟨PyData.keyHash P "_law_read", .str "_law_read" 685, .ref 379⟩, ⟨PyData.keyHash P "_law_worded", .str "_law_worded" 697, .ref 386⟩, ⟨PyData.keyHash P "_law_signed", .str "_law_signed" 709, .ref 393⟩, ⟨PyData.keyHash P "_law_other", .str "_law_other" 717, .ref 400⟩, ⟨PyData.keyHash P "_law_refused", .str "_law_refused" 725, .ref 407⟩, ⟨PyData.keyHash P "_law_taken", .str "_law_taken" 734, .ref 414⟩, ⟨PyData.keyHash P "law", .str "law" 747, .ref 421⟩] 54 }) ::
  (nat_lit 23, k23 P) ::
  (nat_lit 24, k24) ::
  (nat_lit 25, k25) ::
  (nat_lit 36, k36 P) ::
  (nat_lit 37, k37) ::
  (nat_lit 48, k48 P) ::
  (nat_lit 49, k49) ::
  (nat_lit 64, k64) ::
  (nat_lit 65, k65) ::
  (nat_lit 67, k67 P) ::
  (nat_lit 68, k68) ::
  (nat_lit 83, k83) ::
  (nat_lit 84, k84) ::
  (nat_lit 86, k86 P) ::
  (nat_lit 87, k87) ::
  (nat_lit 102, k102) ::
  (nat_lit 103, k103) ::
  (nat_lit 105, k105 P) ::
  (nat_lit 106, k106) ::
  (nat_lit 121, k121) ::
  (nat_lit 122, k122) ::
  (nat_lit 124, k124 P) ::
  (nat_lit 125, k125) ::
  (nat_lit 140, k140) ::
  (nat_lit 141, k141) ::
  (nat_lit 143, k143 P) ::
  (nat_lit 144, k144) ::
  (nat_lit 159, k159) ::
  (nat_lit 160, k160) ::
  (nat_lit 162, k162 P) ::
  (nat_lit 163, k163) ::
  (nat_lit 178, k178) ::
  (nat_lit 179, k179) ::
  (nat_lit 181, k181 P) ::
  (nat_lit 182, k182) ::
  (nat_lit 197, k197) ::
  (nat_lit 198, k198) ::
  (nat_lit 200, k200 P) ::
  (nat_lit 201, k201) ::
  (nat_lit 216, k216) ::
  (nat_lit 217, k217) ::
  (nat_lit 219, k219 P) ::
  (nat_lit 220, k220) ::
  (nat_lit 235, k235) ::
  (nat_lit 236, k236) ::
  (nat_lit 238, k238 P) ::
  (nat_lit 239, k239) ::
  (nat_lit 254, k254) ::
  (nat_lit 255, k255) ::
  (nat_lit 257, k257 P) ::
  (nat_lit 258, k258) ::
  (nat_lit 264, k264) ::
  (nat_lit 265, k265) ::
  (nat_lit 269, k269) ::
  (nat_lit 270, k270) ::
  (nat_lit 274, k274) ::
  (nat_lit 275, k275) ::
  (nat_lit 281, k281) ::
  (nat_lit 282, k282) ::
  (nat_lit 288, k288) ::
  (nat_lit 289, k289) ::
  (nat_lit 295, k295) ::
  (nat_lit 296, k296) ::
  (nat_lit 302, k302) ::
  (nat_lit 303, k303) ::
  (nat_lit 309, k309) ::
  (nat_lit 310, k310) ::
  (nat_lit 316, k316) ::
  (nat_lit 317, k317) ::
  (nat_lit 323, k323) ::
  (nat_lit 324, k324) ::
  (nat_lit 330, k330) ::
  (nat_lit 331, k331) ::
  (nat_lit 335, k335) ::
  (nat_lit 336, k336) ::
  (nat_lit 340, k340) ::
  (nat_lit 341, k341) ::
  (nat_lit 345, k345) ::
  (nat_lit 346, k346) ::
  (nat_lit 352, k352) ::
  (nat_lit 353, k353) ::
  (nat_lit 359, k359) ::
  (nat_lit 360, k360) ::
  (nat_lit 366, k366) ::
  (nat_lit 367, k367) ::
  (nat_lit 371, k371) ::
  (nat_lit 372, k372) ::
  (nat_lit 378, k378) ::
  (nat_lit 379, k379) ::
  (nat_lit 385, k385) ::
  (nat_lit 386, k386) ::
  (nat_lit 392, k392) ::
  (nat_lit 393, k393) ::
  (nat_lit 399, k399) ::
  (nat_lit 400, k400) ::
  (nat_lit 406, k406) ::
  (nat_lit 407, k407) ::
  (nat_lit 413, k413) ::
  (nat_lit 414, k414) ::
  (nat_lit 420, k420) ::
  (nat_lit 421, k421) ::
  []
end Mine
set_option maxHeartbeats 0
namespace Hd
open PySem PySem.W PySem.Calls PyProof.Rows
noncomputable def put (t : BT) : Nat → Obj → BT := BT.rec (motive := fun _ => Nat → Obj → BT) (fun _ o => .node o .nil .nil) (fun v l r x y i o => match i with | 0 => .node o l r | j + 1 => bif Nat.beq (j % 2) 0 then .node v (x (j / 2) o) r else .node v l (y (j / 2) o)) t
noncomputable def puts (t : BT) (l : List (Nat × Obj)) : BT := l.foldl (fun t p => put t p.1 p.2) t
noncomputable def en (P : Params) (x : Str) (t : Nat) (v : Value) : DictEntry := ⟨PyData.keyHash P x, .str x t, v⟩
noncomputable def fo (s : Stmt) (n q m : Str) (t c : Nat) : Obj := ⟨.type "function", none, .func { name := n, qualname := q, params := L2.defArgs s, body := .stmts (L2.defBody s), scope := L2.defScope s, globals := 3, closure := [], defaults := .none, kwdefaults := .none, pyModule := .str m t, code := .ref c }, #[]⟩
noncomputable def pf (s : Stmt) (n q : Str) : Obj := ⟨.none, none, .func { name := n, qualname := q, params := L2.defArgs s, body := .stmts (L2.defBody s), scope := L2.defScope s, globals := 0, closure := [], defaults := .none, kwdefaults := .none }, #[]⟩
noncomputable def tu (l : List Value) : Obj := ⟨.type "tuple", none, .seq l.toArray, #[]⟩
noncomputable def eT : Obj := tu []
noncomputable def eF : Obj := { cls := .none, data := .fields #[] }
noncomputable def co (n q : Str) (a b c : Nat) (l k : Int) (f r : Nat) (t : Bool) (g : Int) (u : Nat) (x y z : Value) (v : Nat) (m : Int) (e : Nat) : Obj := { cls := .type "code", data := .fields #[.str n a, .str q b, .str "/claim/cut.py" c, .int l 0, .int k 0, .int 0 0, .int 0 0, .int f 0, .ref r, .bool t, .int g 0, .ref u, x, y, z, .ref v, .int m 0, .int l 0, .str "/claim/cut.py" e] }
noncomputable def env : Env := { scope := PySem.Challenge.pw_drawhouse_k14_no_expressions.main.scope, locals := mainNs, globals := mainNs, cells := [], code := Value.ref 13, frame := some 14 }
noncomputable def cE : Code := .body (behindTheImports PySem.Challenge.pw_drawhouse_k14_no_expressions) env
noncomputable def fr : List Frame := [topFrame { line := 0, col := 0, endLine := 0, endCol := 0 }]
noncomputable def sl (a n : Nat) : List Stmt := ((behindTheImports PySem.Challenge.pw_drawhouse_k14_no_expressions).drop a).take n
noncomputable def o13 : Obj := { cls := .type "code", data := .fields #[.str "<module>" 182, .str "<module>" 183, .str "/claim/cut.py" 184, .int 1 0, .int 0 0, .int 0 0, .int 0 0, .int 0 0, .ref 11, .bool false, .int 181 0, .ref 12, .none, .none, .none, .none, .int 185 0, .int 1 0, .str "/claim/cut.py" 186] }
noncomputable def o14 : Obj := { cls := .type "frame", slots := #[some (.ref 13), some (.ref 3), some (.ref 3), none, some (.str "__main__" 164), none, some (.ref 0)] }
noncomputable def hA0 (P : Params) (r : List Obj) : List Obj := (boot_o_0 P) :: (boot_o_1 P) :: (boot_o_2 P) :: (boot_o_3 P) :: (boot_o_4 P) :: (boot_o_5 P) :: (boot_o_6 P) :: (boot_o_7 P) :: (boot_o_8 P) :: (boot_o_9 P) :: (boot_o_10 P) :: eT :: ({ cls := .none, data := .fields #[] }) :: o13 :: o14 :: r
noncomputable def hA (P : Params) : Heap := ⟨Array.mk (hA0 P ([])), { }⟩
noncomputable def Lp (w : World) (os : OsState) : Option (Shared × Thread) := topGo treeTable PySem.Challenge.pw_drawhouse_k14_no_expressions w 11 (some (Value.ref 6)) 12 ⟨boot_heap w.params, Array.mk [], boot_drawn, boot_toks, os⟩ (topStub PySem.Challenge.pw_drawhouse_k14_no_expressions)
noncomputable def Rp (w : World) (os : OsState) : Option (Shared × Thread) := some (⟨hA w.params, Array.mk [], { }, nat_lit 187, os⟩, ⟨denote treeTable cE, cE, { line := 0, col := 0, endLine := 0, endCol := 0 }, fr⟩)
theorem rLp : Lp = Lp := rfl
name_quick Lp for Hd.Lp by Hd.rLp
theorem rRp : Rp = Rp := rfl
name_quick Rp for Hd.Rp by Hd.rRp
theorem qp : PySem.W.Fast.Lp = PySem.W.Fast.Rp := by kernel_rfl
theorem ep : Lp = Rp := PySem.W.Fast.Lp_eq.trans (qp.trans PySem.W.Fast.Rp_eq.symm)
noncomputable def t0x0 (P : Params) : BT := puts .nil ((0, boot_o_0 P) :: (1, boot_o_1 P) :: (2, boot_o_2 P) :: (3, boot_o_3 P) :: (4, boot_o_4 P) :: (5, boot_o_5 P) :: (6, boot_o_6 P) :: (7, boot_o_7 P) :: (8, boot_o_8 P) :: (9, boot_o_9 P) :: (10, boot_o_10 P) :: (11, eT) :: [])
noncomputable def t0 (P : Params) : BT := puts (t0x0 P) ((12, { cls := .none, data := .fields #[] }) :: (13, o13) :: (14, o14) :: [])
noncomputable def Lb (w : World) (os : OsState) : Option (Flow × Shared × Code × Pos) := segRun treeTable PySem.Challenge.pw_drawhouse_k14_no_expressions w 11 (some (Value.ref 6)) 1 1 ⟨hA w.params, Array.mk [], { }, nat_lit 187, os⟩ (blockOf (behindTheImports PySem.Challenge.pw_drawhouse_k14_no_expressions) env cE { line := 0, col := 0, endLine := 0, endCol := 0 } fr)
noncomputable def Rb (w : World) (os : OsState) : Option (Flow × Shared × Code × Pos) := some (.next, SharedT.abs ⟨t0 w.params, nat_lit 15, { }, Array.mk [], { }, nat_lit 187, os⟩, cE, { line := 0, col := 0, endLine := 0, endCol := 0 })
theorem rLb : Lb = Lb := rfl
name_quick Lb for Hd.Lb by Hd.rLb
theorem rRb : Rb = Rb := rfl
name_quick Rb for Hd.Rb by Hd.rRb
theorem qb : PySem.W.Fast.Lb = PySem.W.Fast.Rb := by kernel_rfl
theorem eb : Lb = Rb := PySem.W.Fast.Lb_eq.trans (qb.trans PySem.W.Fast.Rb_eq.symm)
noncomputable def n0 (P : Params) (r : List DictEntry) : List DictEntry := en P "__name__" 165 (.str "drawhouse.errors" 187) :: en P "__doc__" 166 .none :: en P "__package__" 167 .none :: en P "__loader__" 168 (.builtin "__main__.__loader__#opaque") :: en P "__spec__" 169 .none :: en P "__annotations__" 170 (.ref 6) :: en P "__builtins__" 171 (.ref 4) :: en P "__file__" 173 (.str "/claim/cut.py" 172) :: en P "__cached__" 174 .none :: en P "HouseError" 206 (.ref 24) :: en P "NoExpr" 222 (.ref 37) :: en P "TooWide" 238 (.ref 49) :: r
noncomputable def o15 : Obj := tu [.type "ValueError"]
noncomputable def o16 : Obj := { cls := .type "builtin_function_or_method", data := .fields #[.builtin "type.__prepare__", .type "type"] }
noncomputable def o17 (P : Params) : Obj := { cls := .type "dict", data := .dict #[en P "__module__" 196 (.str "drawhouse.errors" 187), en P "__qualname__" 198 (.str "HouseError" 197), en P "__firstlineno__" 200 (.int 2 199), en P "__static_attributes__" 201 (.ref 22)] 4 }
noncomputable def o20 : Obj := { cls := .type "code", data := .fields #[.str "HouseError" 191, .str "HouseError" 192, .str "/claim/cut.py" 193, .int 2 0, .int 0 0, .int 0 0, .int 0 0, .int 0 0, .ref 18, .bool false, .int 181 0, .ref 19, .none, .none, .none, .none, .int 194 0, .int 2 0, .str "/claim/cut.py" 195] }
noncomputable def o21 : Obj := { cls := .type "frame", slots := #[some (.ref 20), some (.ref 3), some (.ref 17), none, some (.str "drawhouse.errors" 187), none, some (.ref 0)] }
noncomputable def o26 : Obj := { cls := .type "super", data := .fields #[.ref 24, .ref 24, .ref 24] }
noncomputable def o27 : Obj := { cls := .type "builtin_function_or_method", data := .fields #[.builtin "object.__init_subclass__", .ref 24] }
noncomputable def o28 : Obj := tu [.ref 24]
noncomputable def o29 : Obj := { cls := .type "builtin_function_or_method", data := .fields #[.builtin "type.__prepare__", .type "type"] }
noncomputable def o30 (P : Params) : Obj := { cls := .type "dict", data := .dict #[en P "__module__" 214 (.str "drawhouse.errors" 187), en P "__qualname__" 216 (.str "NoExpr" 215), en P "__firstlineno__" 218 (.int 4 217), en P "__static_attributes__" 219 (.ref 35)] 4 }
noncomputable def o33 : Obj := { cls := .type "code", data := .fields #[.str "NoExpr" 209, .str "NoExpr" 210, .str "/claim/cut.py" 211, .int 4 0, .int 0 0, .int 0 0, .int 0 0, .int 0 0, .ref 31, .bool false, .int 181 0, .ref 32, .none, .none, .none, .none, .int 212 0, .int 4 0, .str "/claim/cut.py" 213] }
noncomputable def o34 : Obj := { cls := .type "frame", slots := #[some (.ref 33), some (.ref 3), some (.ref 30), none, some (.str "drawhouse.errors" 187), none, some (.ref 0)] }
noncomputable def o38 : Obj := { cls := .type "super", data := .fields #[.ref 37, .ref 37, .ref 37] }
noncomputable def o39 : Obj := { cls := .type "builtin_function_or_method", data := .fields #[.builtin "object.__init_subclass__", .ref 37] }
noncomputable def o40 : Obj := tu [.ref 24]
noncomputable def o41 : Obj := { cls := .type "builtin_function_or_method", data := .fields #[.builtin "type.__prepare__", .type "type"] }
noncomputable def o42 (P : Params) : Obj := { cls := .type "dict", data := .dict #[en P "__module__" 230 (.str "drawhouse.errors" 187), en P "__qualname__" 232 (.str "TooWide" 231), en P "__firstlineno__" 234 (.int 6 233), en P "__static_attributes__" 235 (.ref 47)] 4 }
noncomputable def o45 : Obj := { cls := .type "code", data := .fields #[.str "TooWide" 225, .str "TooWide" 226, .str "/claim/cut.py" 227, .int 6 0, .int 0 0, .int 0 0, .int 0 0, .int 0 0, .ref 43, .bool false, .int 181 0, .ref 44, .none, .none, .none, .none, .int 228 0, .int 6 0, .str "/claim/cut.py" 229] }
noncomputable def o46 : Obj := { cls := .type "frame", slots := #[some (.ref 45), some (.ref 3), some (.ref 42), none, some (.str "drawhouse.errors" 187), none, some (.ref 0)] }
noncomputable def o50 : Obj := { cls := .type "super", data := .fields #[.ref 49, .ref 49, .ref 49] }
noncomputable def o51 : Obj := { cls := .type "builtin_function_or_method", data := .fields #[.builtin "object.__init_subclass__", .ref 49] }
noncomputable def t1x0 (P : Params) : BT := puts (t0 P) ((3, { cls := .type "dict", data := .dict (List.toArray (n0 P ([]))) 12 }) :: (12, { cls := .none, data := .fields #[.int 2 0, .int 0 0, .ref 20, .int 4 0, .int 0 0, .ref 33, .int 6 0, .int 0 0, .ref 45] }) :: (15, o15) :: (16, o16) :: (17, o17 P) :: (18, eT) :: (19, eF) :: (20, o20) :: (21, o21) :: (22, eT) :: (23, Mine.k23 P) :: (24, { cls := .type "type", data := .cls { name := Str.ofString "HouseError", bases := [.type "ValueError"], mro := [.ref 24, .type "ValueError", .type "Exception", .type "BaseException", .type "object"], ns := 23, qualname := Str.ofString "HouseError", subclasses := [.ref 37, .ref 49] }, slots := #[some (.ref 15), none, some (.str "HouseError" 189), some (.str "HouseError" 197), some (.builtin "ValueError.__new__"), some (.bool true)] }) :: [])
noncomputable def t1x1 (P : Params) : BT := puts (t1x0 P) ((25, Mine.k25) :: (26, o26) :: (27, o27) :: (28, o28) :: (29, o29) :: (30, o30 P) :: (31, eT) :: (32, eF) :: (33, o33) :: (34, o34) :: (35, eT) :: (36, Mine.k36 P) :: [])
noncomputable def t1x2 (P : Params) : BT := puts (t1x1 P) ((37, Mine.k37) :: (38, o38) :: (39, o39) :: (40, o40) :: (41, o41) :: (42, o42 P) :: (43, eT) :: (44, eF) :: (45, o45) :: (46, o46) :: (47, eT) :: (48, Mine.k48 P) :: [])
noncomputable def t1 (P : Params) : BT := puts (t1x2 P) ((49, Mine.k49) :: (50, o50) :: (51, o51) :: [])
noncomputable def L0 (w : World) (os : OsState) : Option (Flow × SharedT × Code × Pos) := segRunT treeTable PySem.Challenge.pw_drawhouse_k14_no_expressions w 11 (some (Value.ref 6)) 1 622 ⟨t0 w.params, nat_lit 15, { }, Array.mk [], { }, nat_lit 187, os⟩ (piecesOf (sl 0 4) env cE { line := 0, col := 0, endLine := 0, endCol := 0 } fr)
noncomputable def R0 (w : World) (os : OsState) : Option (Flow × SharedT × Code × Pos) := some (.next, ⟨t1 w.params, nat_lit 52, { }, Array.mk [], { }, nat_lit 239, os⟩, cE, { line := 6, col := 0, endLine := 7, endCol := 8 })
theorem rL0 : L0 = L0 := rfl
name_quick L0 for Hd.L0 by Hd.rL0
theorem rR0 : R0 = R0 := rfl
name_quick R0 for Hd.R0 by Hd.rR0
theorem q0 : PySem.W.Fast.L0 = PySem.W.Fast.R0 := by kernel_rfl
theorem e0 : L0 = R0 := PySem.W.Fast.L0_eq.trans (q0.trans PySem.W.Fast.R0_eq.symm)
noncomputable def n1 (P : Params) (r : List DictEntry) : List DictEntry := en P "NoText" 263 (.ref 68) :: en P "TooMany" 288 (.ref 87) :: en P "Twice" 313 (.ref 106) :: r
noncomputable def o52 : Obj := tu [.ref 24]
noncomputable def o53 : Obj := { cls := .type "builtin_function_or_method", data := .fields #[.builtin "type.__prepare__", .type "type"] }
noncomputable def o54 (P : Params) : Obj := { cls := .type "dict", data := .dict #[en P "__module__" 246 (.str "drawhouse.errors" 187), en P "__qualname__" 248 (.str "NoText" 247), en P "__firstlineno__" 250 (.int 8 249), en P "__init__" 258 (.ref 65), en P "__static_attributes__" 260 (.ref 66)] 5 }
noncomputable def o56 : Obj := { cls := .none, data := .fields #[.int 10 0, .int 4 0, .ref 64] }
noncomputable def o57 : Obj := { cls := .type "code", data := .fields #[.str "NoText" 241, .str "NoText" 242, .str "/claim/cut.py" 243, .int 8 0, .int 0 0, .int 0 0, .int 0 0, .int 0 0, .ref 55, .bool false, .int 181 0, .ref 56, .none, .none, .none, .none, .int 244 0, .int 8 0, .str "/claim/cut.py" 245] }
noncomputable def o58 : Obj := { cls := .type "frame", slots := #[some (.ref 57), some (.ref 3), some (.ref 54), none, some (.str "drawhouse.errors" 187), none, some (.ref 0)] }
noncomputable def o61 : Obj := tu [.str "self" 254, .str "at" 255]
noncomputable def o63 : Obj := pf ((Mine.clsBody (Mine.top 4)).getD 0 (.Pass ⟨0, 0, 0, 0⟩)) "__init__" "NoText.__init__"
noncomputable def o66 : Obj := tu [.str "at" 259]
noncomputable def o69 : Obj := { cls := .type "super", data := .fields #[.ref 68, .ref 68, .ref 68] }
noncomputable def o70 : Obj := { cls := .type "builtin_function_or_method", data := .fields #[.builtin "object.__init_subclass__", .ref 68] }
noncomputable def o71 : Obj := tu [.ref 24]
noncomputable def o72 : Obj := { cls := .type "builtin_function_or_method", data := .fields #[.builtin "type.__prepare__", .type "type"] }
noncomputable def o73 (P : Params) : Obj := { cls := .type "dict", data := .dict #[en P "__module__" 271 (.str "drawhouse.errors" 187), en P "__qualname__" 273 (.str "TooMany" 272), en P "__firstlineno__" 275 (.int 13 274), en P "__init__" 283 (.ref 84), en P "__static_attributes__" 285 (.ref 85)] 5 }
noncomputable def o75 : Obj := { cls := .none, data := .fields #[.int 15 0, .int 4 0, .ref 83] }
noncomputable def o76 : Obj := { cls := .type "code", data := .fields #[.str "TooMany" 266, .str "TooMany" 267, .str "/claim/cut.py" 268, .int 13 0, .int 0 0, .int 0 0, .int 0 0, .int 0 0, .ref 74, .bool false, .int 181 0, .ref 75, .none, .none, .none, .none, .int 269 0, .int 13 0, .str "/claim/cut.py" 270] }
noncomputable def o77 : Obj := { cls := .type "frame", slots := #[some (.ref 76), some (.ref 3), some (.ref 73), none, some (.str "drawhouse.errors" 187), none, some (.ref 0)] }
noncomputable def o80 : Obj := tu [.str "self" 279, .str "at" 280]
noncomputable def o82 : Obj := pf ((Mine.clsBody (Mine.top 5)).getD 0 (.Pass ⟨0, 0, 0, 0⟩)) "__init__" "TooMany.__init__"
noncomputable def o85 : Obj := tu [.str "at" 284]
noncomputable def o88 : Obj := { cls := .type "super", data := .fields #[.ref 87, .ref 87, .ref 87] }
noncomputable def o89 : Obj := { cls := .type "builtin_function_or_method", data := .fields #[.builtin "object.__init_subclass__", .ref 87] }
noncomputable def o90 : Obj := tu [.ref 24]
noncomputable def o91 : Obj := { cls := .type "builtin_function_or_method", data := .fields #[.builtin "type.__prepare__", .type "type"] }
noncomputable def o92 (P : Params) : Obj := { cls := .type "dict", data := .dict #[en P "__module__" 296 (.str "drawhouse.errors" 187), en P "__qualname__" 298 (.str "Twice" 297), en P "__firstlineno__" 300 (.int 18 299), en P "__init__" 308 (.ref 103), en P "__static_attributes__" 310 (.ref 104)] 5 }
noncomputable def o94 : Obj := { cls := .none, data := .fields #[.int 20 0, .int 4 0, .ref 102] }
noncomputable def o95 : Obj := { cls := .type "code", data := .fields #[.str "Twice" 291, .str "Twice" 292, .str "/claim/cut.py" 293, .int 18 0, .int 0 0, .int 0 0, .int 0 0, .int 0 0, .ref 93, .bool false, .int 181 0, .ref 94, .none, .none, .none, .none, .int 294 0, .int 18 0, .str "/claim/cut.py" 295] }
noncomputable def o96 : Obj := { cls := .type "frame", slots := #[some (.ref 95), some (.ref 3), some (.ref 92), none, some (.str "drawhouse.errors" 187), none, some (.ref 0)] }
noncomputable def o99 : Obj := tu [.str "self" 304, .str "at" 305]
noncomputable def o101 : Obj := pf ((Mine.clsBody (Mine.top 6)).getD 0 (.Pass ⟨0, 0, 0, 0⟩)) "__init__" "Twice.__init__"
noncomputable def o104 : Obj := tu [.str "at" 309]
noncomputable def o107 : Obj := { cls := .type "super", data := .fields #[.ref 106, .ref 106, .ref 106] }
noncomputable def o108 : Obj := { cls := .type "builtin_function_or_method", data := .fields #[.builtin "object.__init_subclass__", .ref 106] }
noncomputable def t2x0 (P : Params) : BT := puts (t1 P) ((3, { cls := .type "dict", data := .dict (List.toArray (n0 P (n1 P ([])))) 15 }) :: (12, { cls := .none, data := .fields #[.int 2 0, .int 0 0, .ref 20, .int 4 0, .int 0 0, .ref 33, .int 6 0, .int 0 0, .ref 45, .int 8 0, .int 0 0, .ref 57, .int 13 0, .int 0 0, .ref 76, .int 18 0, .int 0 0, .ref 95] }) :: (24, { cls := .type "type", data := .cls { name := Str.ofString "HouseError", bases := [.type "ValueError"], mro := [.ref 24, .type "ValueError", .type "Exception", .type "BaseException", .type "object"], ns := 23, qualname := Str.ofString "HouseError", subclasses := [.ref 37, .ref 49, .ref 68, .ref 87, .ref 106] }, slots := #[some (.ref 15), none, some (.str "HouseError" 189), some (.str "HouseError" 197), some (.builtin "ValueError.__new__"), some (.bool true)] }) :: (52, o52) :: (53, o53) :: (54, o54 P) :: (55, eT) :: (56, o56) :: (57, o57) :: (58, o58) :: (59, eT) :: (60, eF) :: [])
noncomputable def t2x1 (P : Params) : BT := puts (t2x0 P) ((61, o61) :: (62, eT) :: (63, o63) :: (64, Mine.k64) :: (65, Mine.k65) :: (66, o66) :: (67, Mine.k67 P) :: (68, Mine.k68) :: (69, o69) :: (70, o70) :: (71, o71) :: (72, o72) :: [])
noncomputable def t2x2 (P : Params) : BT := puts (t2x1 P) ((73, o73 P) :: (74, eT) :: (75, o75) :: (76, o76) :: (77, o77) :: (78, eT) :: (79, eF) :: (80, o80) :: (81, eT) :: (82, o82) :: (83, Mine.k83) :: (84, Mine.k84) :: [])
noncomputable def t2x3 (P : Params) : BT := puts (t2x2 P) ((85, o85) :: (86, Mine.k86 P) :: (87, Mine.k87) :: (88, o88) :: (89, o89) :: (90, o90) :: (91, o91) :: (92, o92 P) :: (93, eT) :: (94, o94) :: (95, o95) :: (96, o96) :: [])
noncomputable def t2 (P : Params) : BT := puts (t2x3 P) ((97, eT) :: (98, eF) :: (99, o99) :: (100, eT) :: (101, o101) :: (102, Mine.k102) :: (103, Mine.k103) :: (104, o104) :: (105, Mine.k105 P) :: (106, Mine.k106) :: (107, o107) :: (108, o108) :: [])
noncomputable def L1 (w : World) (os : OsState) : Option (Flow × SharedT × Code × Pos) := segRunT treeTable PySem.Challenge.pw_drawhouse_k14_no_expressions w 11 (some (Value.ref 6)) 1 736 ⟨t1 w.params, nat_lit 52, { }, Array.mk [], { }, nat_lit 239, os⟩ (piecesOf (sl 4 3) env cE { line := 6, col := 0, endLine := 7, endCol := 8 } fr)
noncomputable def R1 (w : World) (os : OsState) : Option (Flow × SharedT × Code × Pos) := some (.next, ⟨t2 w.params, nat_lit 109, { }, Array.mk [], { }, nat_lit 314, os⟩, cE, { line := 18, col := 0, endLine := 22, endCol := 20 })
theorem rL1 : L1 = L1 := rfl
name_quick L1 for Hd.L1 by Hd.rL1
theorem rR1 : R1 = R1 := rfl
name_quick R1 for Hd.R1 by Hd.rR1
theorem q1 : PySem.W.Fast.L1 = PySem.W.Fast.R1 := by kernel_rfl
theorem e1 : L1 = R1 := PySem.W.Fast.L1_eq.trans (q1.trans PySem.W.Fast.R1_eq.symm)
noncomputable def n2 (P : Params) (r : List DictEntry) : List DictEntry := en P "Double" 338 (.ref 125) :: en P "Orphan" 363 (.ref 144) :: en P "Clash" 388 (.ref 163) :: r
noncomputable def o109 : Obj := tu [.ref 24]
noncomputable def o110 : Obj := { cls := .type "builtin_function_or_method", data := .fields #[.builtin "type.__prepare__", .type "type"] }
noncomputable def o111 (P : Params) : Obj := { cls := .type "dict", data := .dict #[en P "__module__" 321 (.str "drawhouse.errors" 187), en P "__qualname__" 323 (.str "Double" 322), en P "__firstlineno__" 325 (.int 23 324), en P "__init__" 333 (.ref 122), en P "__static_attributes__" 335 (.ref 123)] 5 }
noncomputable def o113 : Obj := { cls := .none, data := .fields #[.int 25 0, .int 4 0, .ref 121] }
noncomputable def o114 : Obj := { cls := .type "code", data := .fields #[.str "Double" 316, .str "Double" 317, .str "/claim/cut.py" 318, .int 23 0, .int 0 0, .int 0 0, .int 0 0, .int 0 0, .ref 112, .bool false, .int 181 0, .ref 113, .none, .none, .none, .none, .int 319 0, .int 23 0, .str "/claim/cut.py" 320] }
noncomputable def o115 : Obj := { cls := .type "frame", slots := #[some (.ref 114), some (.ref 3), some (.ref 111), none, some (.str "drawhouse.errors" 187), none, some (.ref 0)] }
noncomputable def o118 : Obj := tu [.str "self" 329, .str "at" 330]
noncomputable def o120 : Obj := pf ((Mine.clsBody (Mine.top 7)).getD 0 (.Pass ⟨0, 0, 0, 0⟩)) "__init__" "Double.__init__"
noncomputable def o123 : Obj := tu [.str "at" 334]
noncomputable def o126 : Obj := { cls := .type "super", data := .fields #[.ref 125, .ref 125, .ref 125] }
noncomputable def o127 : Obj := { cls := .type "builtin_function_or_method", data := .fields #[.builtin "object.__init_subclass__", .ref 125] }
noncomputable def o128 : Obj := tu [.ref 24]
noncomputable def o129 : Obj := { cls := .type "builtin_function_or_method", data := .fields #[.builtin "type.__prepare__", .type "type"] }
noncomputable def o130 (P : Params) : Obj := { cls := .type "dict", data := .dict #[en P "__module__" 346 (.str "drawhouse.errors" 187), en P "__qualname__" 348 (.str "Orphan" 347), en P "__firstlineno__" 350 (.int 28 349), en P "__init__" 358 (.ref 141), en P "__static_attributes__" 360 (.ref 142)] 5 }
noncomputable def o132 : Obj := { cls := .none, data := .fields #[.int 30 0, .int 4 0, .ref 140] }
noncomputable def o133 : Obj := { cls := .type "code", data := .fields #[.str "Orphan" 341, .str "Orphan" 342, .str "/claim/cut.py" 343, .int 28 0, .int 0 0, .int 0 0, .int 0 0, .int 0 0, .ref 131, .bool false, .int 181 0, .ref 132, .none, .none, .none, .none, .int 344 0, .int 28 0, .str "/claim/cut.py" 345] }
noncomputable def o134 : Obj := { cls := .type "frame", slots := #[some (.ref 133), some (.ref 3), some (.ref 130), none, some (.str "drawhouse.errors" 187), none, some (.ref 0)] }
noncomputable def o137 : Obj := tu [.str "self" 354, .str "at" 355]
noncomputable def o139 : Obj := pf ((Mine.clsBody (Mine.top 8)).getD 0 (.Pass ⟨0, 0, 0, 0⟩)) "__init__" "Orphan.__init__"
noncomputable def o142 : Obj := tu [.str "at" 359]
noncomputable def o145 : Obj := { cls := .type "super", data := .fields #[.ref 144, .ref 144, .ref 144] }
noncomputable def o146 : Obj := { cls := .type "builtin_function_or_method", data := .fields #[.builtin "object.__init_subclass__", .ref 144] }
noncomputable def o147 : Obj := tu [.ref 24]
noncomputable def o148 : Obj := { cls := .type "builtin_function_or_method", data := .fields #[.builtin "type.__prepare__", .type "type"] }
noncomputable def o149 (P : Params) : Obj := { cls := .type "dict", data := .dict #[en P "__module__" 371 (.str "drawhouse.errors" 187), en P "__qualname__" 373 (.str "Clash" 372), en P "__firstlineno__" 375 (.int 33 374), en P "__init__" 383 (.ref 160), en P "__static_attributes__" 385 (.ref 161)] 5 }
noncomputable def o151 : Obj := { cls := .none, data := .fields #[.int 35 0, .int 4 0, .ref 159] }
noncomputable def o152 : Obj := { cls := .type "code", data := .fields #[.str "Clash" 366, .str "Clash" 367, .str "/claim/cut.py" 368, .int 33 0, .int 0 0, .int 0 0, .int 0 0, .int 0 0, .ref 150, .bool false, .int 181 0, .ref 151, .none, .none, .none, .none, .int 369 0, .int 33 0, .str "/claim/cut.py" 370] }
noncomputable def o153 : Obj := { cls := .type "frame", slots := #[some (.ref 152), some (.ref 3), some (.ref 149), none, some (.str "drawhouse.errors" 187), none, some (.ref 0)] }
noncomputable def o156 : Obj := tu [.str "self" 379, .str "at" 380]
noncomputable def o158 : Obj := pf ((Mine.clsBody (Mine.top 9)).getD 0 (.Pass ⟨0, 0, 0, 0⟩)) "__init__" "Clash.__init__"
noncomputable def o161 : Obj := tu [.str "at" 384]
noncomputable def o164 : Obj := { cls := .type "super", data := .fields #[.ref 163, .ref 163, .ref 163] }
noncomputable def o165 : Obj := { cls := .type "builtin_function_or_method", data := .fields #[.builtin "object.__init_subclass__", .ref 163] }
noncomputable def t3x0 (P : Params) : BT := puts (t2 P) ((3, { cls := .type "dict", data := .dict (List.toArray (n0 P (n1 P (n2 P ([]))))) 18 }) :: (12, { cls := .none, data := .fields #[.int 2 0, .int 0 0, .ref 20, .int 4 0, .int 0 0, .ref 33, .int 6 0, .int 0 0, .ref 45, .int 8 0, .int 0 0, .ref 57, .int 13 0, .int 0 0, .ref 76, .int 18 0, .int 0 0, .ref 95, .int 23 0, .int 0 0, .ref 114, .int 28 0, .int 0 0, .ref 133, .int 33 0, .int 0 0, .ref 152] }) :: (24, { cls := .type "type", data := .cls { name := Str.ofString "HouseError", bases := [.type "ValueError"], mro := [.ref 24, .type "ValueError", .type "Exception", .type "BaseException", .type "object"], ns := 23, qualname := Str.ofString "HouseError", subclasses := [.ref 37, .ref 49, .ref 68, .ref 87, .ref 106, .ref 125, .ref 144, .ref 163] }, slots := #[some (.ref 15), none, some (.str "HouseError" 189), some (.str "HouseError" 197), some (.builtin "ValueError.__new__"), some (.bool true)] }) :: (109, o109) :: (110, o110) :: (111, o111 P) :: (112, eT) :: (113, o113) :: (114, o114) :: (115, o115) :: (116, eT) :: (117, eF) :: [])
noncomputable def t3x1 (P : Params) : BT := puts (t3x0 P) ((118, o118) :: (119, eT) :: (120, o120) :: (121, Mine.k121) :: (122, Mine.k122) :: (123, o123) :: (124, Mine.k124 P) :: (125, Mine.k125) :: (126, o126) :: (127, o127) :: (128, o128) :: (129, o129) :: [])
noncomputable def t3x2 (P : Params) : BT := puts (t3x1 P) ((130, o130 P) :: (131, eT) :: (132, o132) :: (133, o133) :: (134, o134) :: (135, eT) :: (136, eF) :: (137, o137) :: (138, eT) :: (139, o139) :: (140, Mine.k140) :: (141, Mine.k141) :: [])
noncomputable def t3x3 (P : Params) : BT := puts (t3x2 P) ((142, o142) :: (143, Mine.k143 P) :: (144, Mine.k144) :: (145, o145) :: (146, o146) :: (147, o147) :: (148, o148) :: (149, o149 P) :: (150, eT) :: (151, o151) :: (152, o152) :: (153, o153) :: [])
noncomputable def t3 (P : Params) : BT := puts (t3x3 P) ((154, eT) :: (155, eF) :: (156, o156) :: (157, eT) :: (158, o158) :: (159, Mine.k159) :: (160, Mine.k160) :: (161, o161) :: (162, Mine.k162 P) :: (163, Mine.k163) :: (164, o164) :: (165, o165) :: [])
noncomputable def L2 (w : World) (os : OsState) : Option (Flow × SharedT × Code × Pos) := segRunT treeTable PySem.Challenge.pw_drawhouse_k14_no_expressions w 11 (some (Value.ref 6)) 1 736 ⟨t2 w.params, nat_lit 109, { }, Array.mk [], { }, nat_lit 314, os⟩ (piecesOf (sl 7 3) env cE { line := 18, col := 0, endLine := 22, endCol := 20 } fr)
noncomputable def R2 (w : World) (os : OsState) : Option (Flow × SharedT × Code × Pos) := some (.next, ⟨t3 w.params, nat_lit 166, { }, Array.mk [], { }, nat_lit 389, os⟩, cE, { line := 33, col := 0, endLine := 37, endCol := 20 })
theorem rL2 : L2 = L2 := rfl
name_quick L2 for Hd.L2 by Hd.rL2
theorem rR2 : R2 = R2 := rfl
name_quick R2 for Hd.R2 by Hd.rR2
theorem q2 : PySem.W.Fast.L2 = PySem.W.Fast.R2 := by kernel_rfl
theorem e2 : L2 = R2 := PySem.W.Fast.L2_eq.trans (q2.trans PySem.W.Fast.R2_eq.symm)
noncomputable def n3 (P : Params) (r : List DictEntry) : List DictEntry := en P "NoRow" 413 (.ref 182) :: en P "NoPart" 438 (.ref 201) :: en P "NoDrop" 463 (.ref 220) :: r
noncomputable def o166 : Obj := tu [.ref 24]
noncomputable def o167 : Obj := { cls := .type "builtin_function_or_method", data := .fields #[.builtin "type.__prepare__", .type "type"] }
noncomputable def o168 (P : Params) : Obj := { cls := .type "dict", data := .dict #[en P "__module__" 396 (.str "drawhouse.errors" 187), en P "__qualname__" 398 (.str "NoRow" 397), en P "__firstlineno__" 400 (.int 38 399), en P "__init__" 408 (.ref 179), en P "__static_attributes__" 410 (.ref 180)] 5 }
noncomputable def o170 : Obj := { cls := .none, data := .fields #[.int 40 0, .int 4 0, .ref 178] }
noncomputable def o171 : Obj := { cls := .type "code", data := .fields #[.str "NoRow" 391, .str "NoRow" 392, .str "/claim/cut.py" 393, .int 38 0, .int 0 0, .int 0 0, .int 0 0, .int 0 0, .ref 169, .bool false, .int 181 0, .ref 170, .none, .none, .none, .none, .int 394 0, .int 38 0, .str "/claim/cut.py" 395] }
noncomputable def o172 : Obj := { cls := .type "frame", slots := #[some (.ref 171), some (.ref 3), some (.ref 168), none, some (.str "drawhouse.errors" 187), none, some (.ref 0)] }
noncomputable def o175 : Obj := tu [.str "self" 404, .str "at" 405]
noncomputable def o177 : Obj := pf ((Mine.clsBody (Mine.top 10)).getD 0 (.Pass ⟨0, 0, 0, 0⟩)) "__init__" "NoRow.__init__"
noncomputable def o180 : Obj := tu [.str "at" 409]
noncomputable def o183 : Obj := { cls := .type "super", data := .fields #[.ref 182, .ref 182, .ref 182] }
noncomputable def o184 : Obj := { cls := .type "builtin_function_or_method", data := .fields #[.builtin "object.__init_subclass__", .ref 182] }
noncomputable def o185 : Obj := tu [.ref 24]
noncomputable def o186 : Obj := { cls := .type "builtin_function_or_method", data := .fields #[.builtin "type.__prepare__", .type "type"] }
noncomputable def o187 (P : Params) : Obj := { cls := .type "dict", data := .dict #[en P "__module__" 421 (.str "drawhouse.errors" 187), en P "__qualname__" 423 (.str "NoPart" 422), en P "__firstlineno__" 425 (.int 43 424), en P "__init__" 433 (.ref 198), en P "__static_attributes__" 435 (.ref 199)] 5 }
noncomputable def o189 : Obj := { cls := .none, data := .fields #[.int 45 0, .int 4 0, .ref 197] }
noncomputable def o190 : Obj := { cls := .type "code", data := .fields #[.str "NoPart" 416, .str "NoPart" 417, .str "/claim/cut.py" 418, .int 43 0, .int 0 0, .int 0 0, .int 0 0, .int 0 0, .ref 188, .bool false, .int 181 0, .ref 189, .none, .none, .none, .none, .int 419 0, .int 43 0, .str "/claim/cut.py" 420] }
noncomputable def o191 : Obj := { cls := .type "frame", slots := #[some (.ref 190), some (.ref 3), some (.ref 187), none, some (.str "drawhouse.errors" 187), none, some (.ref 0)] }
noncomputable def o194 : Obj := tu [.str "self" 429, .str "address" 430]
noncomputable def o196 : Obj := pf ((Mine.clsBody (Mine.top 11)).getD 0 (.Pass ⟨0, 0, 0, 0⟩)) "__init__" "NoPart.__init__"
noncomputable def o199 : Obj := tu [.str "address" 434]
noncomputable def o202 : Obj := { cls := .type "super", data := .fields #[.ref 201, .ref 201, .ref 201] }
noncomputable def o203 : Obj := { cls := .type "builtin_function_or_method", data := .fields #[.builtin "object.__init_subclass__", .ref 201] }
noncomputable def o204 : Obj := tu [.ref 24]
noncomputable def o205 : Obj := { cls := .type "builtin_function_or_method", data := .fields #[.builtin "type.__prepare__", .type "type"] }
noncomputable def o206 (P : Params) : Obj := { cls := .type "dict", data := .dict #[en P "__module__" 446 (.str "drawhouse.errors" 187), en P "__qualname__" 448 (.str "NoDrop" 447), en P "__firstlineno__" 450 (.int 48 449), en P "__init__" 458 (.ref 217), en P "__static_attributes__" 460 (.ref 218)] 5 }
noncomputable def o208 : Obj := { cls := .none, data := .fields #[.int 50 0, .int 4 0, .ref 216] }
noncomputable def o209 : Obj := { cls := .type "code", data := .fields #[.str "NoDrop" 441, .str "NoDrop" 442, .str "/claim/cut.py" 443, .int 48 0, .int 0 0, .int 0 0, .int 0 0, .int 0 0, .ref 207, .bool false, .int 181 0, .ref 208, .none, .none, .none, .none, .int 444 0, .int 48 0, .str "/claim/cut.py" 445] }
noncomputable def o210 : Obj := { cls := .type "frame", slots := #[some (.ref 209), some (.ref 3), some (.ref 206), none, some (.str "drawhouse.errors" 187), none, some (.ref 0)] }
noncomputable def o213 : Obj := tu [.str "self" 454, .str "address" 455]
noncomputable def o215 : Obj := pf ((Mine.clsBody (Mine.top 12)).getD 0 (.Pass ⟨0, 0, 0, 0⟩)) "__init__" "NoDrop.__init__"
noncomputable def o218 : Obj := tu [.str "address" 459]
noncomputable def o221 : Obj := { cls := .type "super", data := .fields #[.ref 220, .ref 220, .ref 220] }
noncomputable def o222 : Obj := { cls := .type "builtin_function_or_method", data := .fields #[.builtin "object.__init_subclass__", .ref 220] }
noncomputable def t4x0 (P : Params) : BT := puts (t3 P) ((3, { cls := .type "dict", data := .dict (List.toArray (n0 P (n1 P (n2 P (n3 P ([])))))) 21 }) :: (12, { cls := .none, data := .fields #[.int 2 0, .int 0 0, .ref 20, .int 4 0, .int 0 0, .ref 33, .int 6 0, .int 0 0, .ref 45, .int 8 0, .int 0 0, .ref 57, .int 13 0, .int 0 0, .ref 76, .int 18 0, .int 0 0, .ref 95, .int 23 0, .int 0 0, .ref 114, .int 28 0, .int 0 0, .ref 133, .int 33 0, .int 0 0, .ref 152, .int 38 0, .int 0 0, .ref 171, .int 43 0, .int 0 0, .ref 190, .int 48 0, .int 0 0, .ref 209] }) :: (24, { cls := .type "type", data := .cls { name := Str.ofString "HouseError", bases := [.type "ValueError"], mro := [.ref 24, .type "ValueError", .type "Exception", .type "BaseException", .type "object"], ns := 23, qualname := Str.ofString "HouseError", subclasses := [.ref 37, .ref 49, .ref 68, .ref 87, .ref 106, .ref 125, .ref 144, .ref 163, .ref 182, .ref 201, .ref 220] }, slots := #[some (.ref 15), none, some (.str "HouseError" 189), some (.str "HouseError" 197), some (.builtin "ValueError.__new__"), some (.bool true)] }) :: (166, o166) :: (167, o167) :: (168, o168 P) :: (169, eT) :: (170, o170) :: (171, o171) :: (172, o172) :: (173, eT) :: (174, eF) :: [])
noncomputable def t4x1 (P : Params) : BT := puts (t4x0 P) ((175, o175) :: (176, eT) :: (177, o177) :: (178, Mine.k178) :: (179, Mine.k179) :: (180, o180) :: (181, Mine.k181 P) :: (182, Mine.k182) :: (183, o183) :: (184, o184) :: (185, o185) :: (186, o186) :: [])
noncomputable def t4x2 (P : Params) : BT := puts (t4x1 P) ((187, o187 P) :: (188, eT) :: (189, o189) :: (190, o190) :: (191, o191) :: (192, eT) :: (193, eF) :: (194, o194) :: (195, eT) :: (196, o196) :: (197, Mine.k197) :: (198, Mine.k198) :: [])
noncomputable def t4x3 (P : Params) : BT := puts (t4x2 P) ((199, o199) :: (200, Mine.k200 P) :: (201, Mine.k201) :: (202, o202) :: (203, o203) :: (204, o204) :: (205, o205) :: (206, o206 P) :: (207, eT) :: (208, o208) :: (209, o209) :: (210, o210) :: [])
noncomputable def t4 (P : Params) : BT := puts (t4x3 P) ((211, eT) :: (212, eF) :: (213, o213) :: (214, eT) :: (215, o215) :: (216, Mine.k216) :: (217, Mine.k217) :: (218, o218) :: (219, Mine.k219 P) :: (220, Mine.k220) :: (221, o221) :: (222, o222) :: [])
noncomputable def L3 (w : World) (os : OsState) : Option (Flow × SharedT × Code × Pos) := segRunT treeTable PySem.Challenge.pw_drawhouse_k14_no_expressions w 11 (some (Value.ref 6)) 1 736 ⟨t3 w.params, nat_lit 166, { }, Array.mk [], { }, nat_lit 389, os⟩ (piecesOf (sl 10 3) env cE { line := 33, col := 0, endLine := 37, endCol := 20 } fr)
noncomputable def R3 (w : World) (os : OsState) : Option (Flow × SharedT × Code × Pos) := some (.next, ⟨t4 w.params, nat_lit 223, { }, Array.mk [], { }, nat_lit 464, os⟩, cE, { line := 48, col := 0, endLine := 52, endCol := 30 })
theorem rL3 : L3 = L3 := rfl
name_quick L3 for Hd.L3 by Hd.rL3
theorem rR3 : R3 = R3 := rfl
name_quick R3 for Hd.R3 by Hd.rR3
theorem q3 : PySem.W.Fast.L3 = PySem.W.Fast.R3 := by kernel_rfl
theorem e3 : L3 = R3 := PySem.W.Fast.L3_eq.trans (q3.trans PySem.W.Fast.R3_eq.symm)
noncomputable def n4 (P : Params) (r : List DictEntry) : List DictEntry := en P "__name__" 165 (.str "law_drawhouse_k14_no_expressions" 586) :: en P "__doc__" 166 .none :: en P "__package__" 167 .none :: en P "__loader__" 168 (.builtin "__main__.__loader__#opaque") :: en P "__spec__" 169 .none :: en P "__annotations__" 170 (.ref 6) :: en P "__builtins__" 171 (.ref 4) :: en P "__file__" 173 (.str "/claim/cut.py" 172) :: en P "__cached__" 174 .none :: en P "HouseError" 206 (.ref 24) :: en P "NoExpr" 222 (.ref 37) :: en P "TooWide" 238 (.ref 49) :: r
noncomputable def n5 (P : Params) (r : List DictEntry) : List DictEntry := en P "NoName" 488 (.ref 239) :: en P "Fault" 519 (.ref 258) :: en P "LETTERS" 523 (.str "abcdefghijklmnopqrstuvwxyz" 522) :: en P "MOST_LETTERS" 525 (.int 8 524) :: en P "is_name" 531 (.ref 265) :: en P "are_names" 537 (.ref 270) :: en P "FIGURES" 541 (.str "0123456789" 540) :: en P "MOST_FIGURES" 543 (.int 20 542) :: en P "MOST_TERMS" 545 (.int 6 544) :: en P "MOST_STEPS" 547 (.int 4 546) :: en P "is_number" 553 (.ref 275) :: en P "read_path" 560 (.ref 282) :: en P "read_term" 568 (.ref 289) :: en P "read_sign" 575 (.ref 296) :: en P "read_expr" 585 (.ref 303) :: r
noncomputable def o223 : Obj := tu [.ref 24]
noncomputable def o224 : Obj := { cls := .type "builtin_function_or_method", data := .fields #[.builtin "type.__prepare__", .type "type"] }
noncomputable def o225 (P : Params) : Obj := { cls := .type "dict", data := .dict #[en P "__module__" 471 (.str "drawhouse.errors" 187), en P "__qualname__" 473 (.str "NoName" 472), en P "__firstlineno__" 475 (.int 53 474), en P "__init__" 483 (.ref 236), en P "__static_attributes__" 485 (.ref 237)] 5 }
noncomputable def o227 : Obj := { cls := .none, data := .fields #[.int 55 0, .int 4 0, .ref 235] }
noncomputable def o228 : Obj := { cls := .type "code", data := .fields #[.str "NoName" 466, .str "NoName" 467, .str "/claim/cut.py" 468, .int 53 0, .int 0 0, .int 0 0, .int 0 0, .int 0 0, .ref 226, .bool false, .int 181 0, .ref 227, .none, .none, .none, .none, .int 469 0, .int 53 0, .str "/claim/cut.py" 470] }
noncomputable def o229 : Obj := { cls := .type "frame", slots := #[some (.ref 228), some (.ref 3), some (.ref 225), none, some (.str "drawhouse.errors" 187), none, some (.ref 0)] }
noncomputable def o232 : Obj := tu [.str "self" 479, .str "name" 480]
noncomputable def o234 : Obj := pf ((Mine.clsBody (Mine.top 13)).getD 0 (.Pass ⟨0, 0, 0, 0⟩)) "__init__" "NoName.__init__"
noncomputable def o237 : Obj := tu [.str "name" 484]
noncomputable def o240 : Obj := { cls := .type "super", data := .fields #[.ref 239, .ref 239, .ref 239] }
noncomputable def o241 : Obj := { cls := .type "builtin_function_or_method", data := .fields #[.builtin "object.__init_subclass__", .ref 239] }
noncomputable def o242 : Obj := tu [.ref 24]
noncomputable def o243 : Obj := { cls := .type "builtin_function_or_method", data := .fields #[.builtin "type.__prepare__", .type "type"] }
noncomputable def o244 (P : Params) : Obj := { cls := .type "dict", data := .dict #[en P "__module__" 496 (.str "drawhouse.errors" 187), en P "__qualname__" 498 (.str "Fault" 497), en P "__firstlineno__" 500 (.int 58 499), en P "__init__" 511 (.ref 255), en P "__static_attributes__" 516 (.ref 256)] 5 }
noncomputable def o246 : Obj := { cls := .none, data := .fields #[.int 60 0, .int 4 0, .ref 254] }
noncomputable def o247 : Obj := { cls := .type "code", data := .fields #[.str "Fault" 491, .str "Fault" 492, .str "/claim/cut.py" 493, .int 58 0, .int 0 0, .int 0 0, .int 0 0, .int 0 0, .ref 245, .bool false, .int 181 0, .ref 246, .none, .none, .none, .none, .int 494 0, .int 58 0, .str "/claim/cut.py" 495] }
noncomputable def o248 : Obj := { cls := .type "frame", slots := #[some (.ref 247), some (.ref 3), some (.ref 244), none, some (.str "drawhouse.errors" 187), none, some (.ref 0)] }
noncomputable def o251 : Obj := tu [.str "self" 504, .str "word" 505, .str "trail" 506, .str "whose" 507, .str "name" 508]
noncomputable def o253 : Obj := pf ((Mine.clsBody (Mine.top 14)).getD 0 (.Pass ⟨0, 0, 0, 0⟩)) "__init__" "Fault.__init__"
noncomputable def o256 : Obj := tu [.str "name" 512, .str "trail" 513, .str "whose" 514, .str "word" 515]
noncomputable def o259 : Obj := { cls := .type "super", data := .fields #[.ref 258, .ref 258, .ref 258] }
noncomputable def o260 : Obj := { cls := .type "builtin_function_or_method", data := .fields #[.builtin "object.__init_subclass__", .ref 258] }
noncomputable def o263 : Obj := pf (Mine.top 18) "is_name" "is_name"
noncomputable def o268 : Obj := pf (Mine.top 19) "are_names" "are_names"
noncomputable def o273 : Obj := pf (Mine.top 25) "is_number" "is_number"
noncomputable def o278 : Obj := tu [.str "word" 557]
noncomputable def o280 : Obj := pf (Mine.top 26) "read_path" "read_path"
noncomputable def o285 : Obj := tu [.str "sign" 564, .str "word" 565]
noncomputable def o287 : Obj := pf (Mine.top 27) "read_term" "read_term"
noncomputable def o292 : Obj := tu [.str "word" 572]
noncomputable def o294 : Obj := pf (Mine.top 28) "read_sign" "read_sign"
noncomputable def o299 : Obj := tu [.str "text" 579, .str "words" 580, .str "terms" 581, .str "at" 582]
noncomputable def o301 : Obj := pf (Mine.top 29) "read_expr" "read_expr"
noncomputable def t5x0 (P : Params) : BT := puts (t4 P) ((3, { cls := .type "dict", data := .dict (List.toArray (n4 P (n1 P (n2 P (n3 P (n5 P ([]))))))) 36 }) :: (12, { cls := .none, data := .fields #[.int 2 0, .int 0 0, .ref 20, .int 4 0, .int 0 0, .ref 33, .int 6 0, .int 0 0, .ref 45, .int 8 0, .int 0 0, .ref 57, .int 13 0, .int 0 0, .ref 76, .int 18 0, .int 0 0, .ref 95, .int 23 0, .int 0 0, .ref 114, .int 28 0, .int 0 0, .ref 133, .int 33 0, .int 0 0, .ref 152, .int 38 0, .int 0 0, .ref 171, .int 43 0, .int 0 0, .ref 190, .int 48 0, .int 0 0, .ref 209, .int 53 0, .int 0 0, .ref 228, .int 58 0, .int 0 0, .ref 247, .int 69 0, .int 0 0, .ref 264, .int 75 0, .int 0 0, .ref 269, .int 83 0, .int 0 0, .ref 274, .int 89 0, .int 0 0, .ref 281, .int 93 0, .int 0 0, .ref 288, .int 99 0, .int 0 0, .ref 295, .int 105 0, .int 0 0, .ref 302] }) :: (24, Mine.k24) :: (223, o223) :: (224, o224) :: (225, o225 P) :: (226, eT) :: (227, o227) :: (228, o228) :: (229, o229) :: (230, eT) :: (231, eF) :: [])
noncomputable def t5x1 (P : Params) : BT := puts (t5x0 P) ((232, o232) :: (233, eT) :: (234, o234) :: (235, Mine.k235) :: (236, Mine.k236) :: (237, o237) :: (238, Mine.k238 P) :: (239, Mine.k239) :: (240, o240) :: (241, o241) :: (242, o242) :: (243, o243) :: [])
noncomputable def t5x2 (P : Params) : BT := puts (t5x1 P) ((244, o244 P) :: (245, eT) :: (246, o246) :: (247, o247) :: (248, o248) :: (249, eT) :: (250, eF) :: (251, o251) :: (252, eT) :: (253, o253) :: (254, Mine.k254) :: (255, Mine.k255) :: [])
noncomputable def t5x3 (P : Params) : BT := puts (t5x2 P) ((256, o256) :: (257, Mine.k257 P) :: (258, Mine.k258) :: (259, o259) :: (260, o260) :: (261, eT) :: (262, eF) :: (263, o263) :: (264, Mine.k264) :: (265, Mine.k265) :: (266, eT) :: (267, eF) :: [])
noncomputable def t5x4 (P : Params) : BT := puts (t5x3 P) ((268, o268) :: (269, Mine.k269) :: (270, Mine.k270) :: (271, eT) :: (272, eF) :: (273, o273) :: (274, Mine.k274) :: (275, Mine.k275) :: (276, eT) :: (277, eF) :: (278, o278) :: (279, eT) :: [])
noncomputable def t5x5 (P : Params) : BT := puts (t5x4 P) ((280, o280) :: (281, Mine.k281) :: (282, Mine.k282) :: (283, eT) :: (284, eF) :: (285, o285) :: (286, eT) :: (287, o287) :: (288, Mine.k288) :: (289, Mine.k289) :: (290, eT) :: (291, eF) :: [])
noncomputable def t5 (P : Params) : BT := puts (t5x5 P) ((292, o292) :: (293, eT) :: (294, o294) :: (295, Mine.k295) :: (296, Mine.k296) :: (297, eT) :: (298, eF) :: (299, o299) :: (300, eT) :: (301, o301) :: (302, Mine.k302) :: (303, Mine.k303) :: [])
noncomputable def L4 (w : World) (os : OsState) : Option (Flow × SharedT × Code × Pos) := segRunT treeTable PySem.Challenge.pw_drawhouse_k14_no_expressions w 11 (some (Value.ref 6)) 1 776 ⟨t4 w.params, nat_lit 223, { }, Array.mk [], { }, nat_lit 464, os⟩ (piecesOf (sl 13 18) env cE { line := 48, col := 0, endLine := 52, endCol := 30 } fr)
noncomputable def R4 (w : World) (os : OsState) : Option (Flow × SharedT × Code × Pos) := some (.next, ⟨t5 w.params, nat_lit 304, { }, Array.mk [], { }, nat_lit 588, os⟩, cE, { line := 117, col := 0, endLine := 117, endCol := 8 })
theorem rL4 : L4 = L4 := rfl
name_quick L4 for Hd.L4 by Hd.rL4
theorem rR4 : R4 = R4 := rfl
name_quick R4 for Hd.R4 by Hd.rR4
theorem q4 : PySem.W.Fast.L4 = PySem.W.Fast.R4 := by kernel_rfl
theorem e4 : L4 = R4 := PySem.W.Fast.L4_eq.trans (q4.trans PySem.W.Fast.R4_eq.symm)
noncomputable def n6 (P : Params) (r : List DictEntry) : List DictEntry := en P "_law_cell" 595 (.ref 310) :: en P "_law_sub" 603 (.ref 317) :: en P "_law_number" 611 (.ref 324) :: en P "_law_pick" 623 (.ref 331) :: en P "_law_name" 629 (.ref 336) :: en P "_law_term" 635 (.ref 341) :: en P "_law_terms" 641 (.ref 346) :: en P "_law_word" 651 (.ref 353) :: en P "_law_text" 660 (.ref 360) :: en P "_law_is_name" 668 (.ref 367) :: en P "_law_read_word" 674 (.ref 372) :: en P "_law_read" 685 (.ref 379) :: en P "_law_worded" 697 (.ref 386) :: en P "_law_signed" 709 (.ref 393) :: en P "_law_other" 717 (.ref 400) :: en P "_law_refused" 725 (.ref 407) :: en P "_law_taken" 734 (.ref 414) :: en P "law" 747 (.ref 421) :: r
noncomputable def o3 (P : Params) : Obj := { cls := .type "dict", data := .dict (List.toArray (n4 P (n1 P (n2 P (n3 P (n5 P (n6 P ([])))))))) 54 }
noncomputable def o12 : Obj := { cls := .none, data := .fields #[.int 2 0, .int 0 0, .ref 20, .int 4 0, .int 0 0, .ref 33, .int 6 0, .int 0 0, .ref 45, .int 8 0, .int 0 0, .ref 57, .int 13 0, .int 0 0, .ref 76, .int 18 0, .int 0 0, .ref 95, .int 23 0, .int 0 0, .ref 114, .int 28 0, .int 0 0, .ref 133, .int 33 0, .int 0 0, .ref 152, .int 38 0, .int 0 0, .ref 171, .int 43 0, .int 0 0, .ref 190, .int 48 0, .int 0 0, .ref 209, .int 53 0, .int 0 0, .ref 228, .int 58 0, .int 0 0, .ref 247, .int 69 0, .int 0 0, .ref 264, .int 75 0, .int 0 0, .ref 269, .int 83 0, .int 0 0, .ref 274, .int 89 0, .int 0 0, .ref 281, .int 93 0, .int 0 0, .ref 288, .int 99 0, .int 0 0, .ref 295, .int 105 0, .int 0 0, .ref 302, .int 118 0, .int 0 0, .ref 309, .int 122 0, .int 0 0, .ref 316, .int 126 0, .int 0 0, .ref 323, .int 130 0, .int 0 0, .ref 330, .int 139 0, .int 0 0, .ref 335, .int 142 0, .int 0 0, .ref 340, .int 150 0, .int 0 0, .ref 345, .int 152 0, .int 0 0, .ref 352, .int 157 0, .int 0 0, .ref 359, .int 162 0, .int 0 0, .ref 366, .int 167 0, .int 0 0, .ref 371, .int 181 0, .int 0 0, .ref 378, .int 194 0, .int 0 0, .ref 385, .int 214 0, .int 0 0, .ref 392, .int 226 0, .int 0 0, .ref 399, .int 231 0, .int 0 0, .ref 406, .int 237 0, .int 0 0, .ref 413, .int 245 0, .int 0 0, .ref 420] }
noncomputable def o306 : Obj := tu [.str "_law_script" 591, .str "_law_k" 592]
noncomputable def o308 : Obj := pf (Mine.top 31) "_law_cell" "_law_cell"
noncomputable def o313 : Obj := tu [.str "_law_cell_here" 599, .str "_law_j" 600]
noncomputable def o315 : Obj := pf (Mine.top 32) "_law_sub" "_law_sub"
noncomputable def o320 : Obj := tu [.str "_law_cell_here" 607, .str "_law_far" 608]
noncomputable def o322 : Obj := pf (Mine.top 33) "_law_number" "_law_number"
noncomputable def o327 : Obj := tu [.str "_law_cell_here" 615, .str "_law_k" 616, .str "_law_many" 617, .str "_law_great" 618, .str "_law_by" 619, .str "_law_one" 620]
noncomputable def o329 : Obj := pf (Mine.top 34) "_law_pick" "_law_pick"
noncomputable def o334 : Obj := pf (Mine.top 35) "_law_name" "_law_name"
noncomputable def o339 : Obj := pf (Mine.top 36) "_law_term" "_law_term"
noncomputable def o344 : Obj := pf (Mine.top 37) "_law_terms" "_law_terms"
noncomputable def o349 : Obj := tu [.str "_law_term_here" 645, .str "_law_sign" 646, .str "_law_sort" 647, .str "_law_thing" 648]
noncomputable def o351 : Obj := pf (Mine.top 38) "_law_word" "_law_word"
noncomputable def o356 : Obj := tu [.str "_law_terms_here" 655, .str "_law_text_here" 656, .str "_law_term_here" 657]
noncomputable def o358 : Obj := pf (Mine.top 39) "_law_text" "_law_text"
noncomputable def o363 : Obj := tu [.str "_law_text_here" 664, .str "_law_sign" 665]
noncomputable def o365 : Obj := pf (Mine.top 40) "_law_is_name" "_law_is_name"
noncomputable def o370 : Obj := pf (Mine.top 41) "_law_read_word" "_law_read_word"
noncomputable def o375 : Obj := tu [.str "_law_text_here" 678, .str "_law_words" 679, .str "_law_terms_here" 680, .str "_law_k" 681, .str "_law_term_here" 682]
noncomputable def o377 : Obj := pf (Mine.top 42) "_law_read" "_law_read"
noncomputable def o382 : Obj := tu [.str "_law_words" 689, .str "_law_cell_here" 690, .str "_law_at" 691, .str "_law_way" 692, .str "_law_some" 693, .str "_law_word_here" 694]
noncomputable def o384 : Obj := pf (Mine.top 43) "_law_worded" "_law_worded"
noncomputable def o389 : Obj := tu [.str "_law_text_here" 701, .str "_law_cell_here" 702, .str "_law_signs" 703, .str "_law_at" 704, .str "_law_sign" 705, .str "_law_way" 706]
noncomputable def o391 : Obj := pf (Mine.top 44) "_law_signed" "_law_signed"
noncomputable def o396 : Obj := tu [.str "_law_e" 713, .str "_law_some" 714]
noncomputable def o398 : Obj := pf (Mine.top 45) "_law_other" "_law_other"
noncomputable def o403 : Obj := tu [.str "_law_thing" 721, .str "_law_e" 722]
noncomputable def o405 : Obj := pf (Mine.top 46) "_law_refused" "_law_refused"
noncomputable def o410 : Obj := tu [.str "_law_text_here" 729, .str "_law_due" 730, .str "_law_found" 731]
noncomputable def o412 : Obj := pf (Mine.top 47) "_law_taken" "_law_taken"
noncomputable def o417 : Obj := tu [.str "_law_script" 738, .str "_law_k" 739, .str "_law_cell_here" 740, .str "_law_text_here" 741, .str "_law_words" 742, .str "_law_one" 743, .str "_law_odd" 744]
noncomputable def o419 : Obj := pf (Mine.top 48) "law" "law"
noncomputable def t6x0 (P : Params) : BT := puts (t5 P) ((3, o3 P) :: (12, o12) :: (304, eT) :: (305, eF) :: (306, o306) :: (307, eT) :: (308, o308) :: (309, Mine.k309) :: (310, Mine.k310) :: (311, eT) :: (312, eF) :: (313, o313) :: [])
noncomputable def t6x1 (P : Params) : BT := puts (t6x0 P) ((314, eT) :: (315, o315) :: (316, Mine.k316) :: (317, Mine.k317) :: (318, eT) :: (319, eF) :: (320, o320) :: (321, eT) :: (322, o322) :: (323, Mine.k323) :: (324, Mine.k324) :: (325, eT) :: [])
noncomputable def t6x2 (P : Params) : BT := puts (t6x1 P) ((326, eF) :: (327, o327) :: (328, eT) :: (329, o329) :: (330, Mine.k330) :: (331, Mine.k331) :: (332, eT) :: (333, eF) :: (334, o334) :: (335, Mine.k335) :: (336, Mine.k336) :: (337, eT) :: [])
noncomputable def t6x3 (P : Params) : BT := puts (t6x2 P) ((338, eF) :: (339, o339) :: (340, Mine.k340) :: (341, Mine.k341) :: (342, eT) :: (343, eF) :: (344, o344) :: (345, Mine.k345) :: (346, Mine.k346) :: (347, eT) :: (348, eF) :: (349, o349) :: [])
noncomputable def t6x4 (P : Params) : BT := puts (t6x3 P) ((350, eT) :: (351, o351) :: (352, Mine.k352) :: (353, Mine.k353) :: (354, eT) :: (355, eF) :: (356, o356) :: (357, eT) :: (358, o358) :: (359, Mine.k359) :: (360, Mine.k360) :: (361, eT) :: [])
noncomputable def t6x5 (P : Params) : BT := puts (t6x4 P) ((362, eF) :: (363, o363) :: (364, eT) :: (365, o365) :: (366, Mine.k366) :: (367, Mine.k367) :: (368, eT) :: (369, eF) :: (370, o370) :: (371, Mine.k371) :: (372, Mine.k372) :: (373, eT) :: [])
noncomputable def t6x6 (P : Params) : BT := puts (t6x5 P) ((374, eF) :: (375, o375) :: (376, eT) :: (377, o377) :: (378, Mine.k378) :: (379, Mine.k379) :: (380, eT) :: (381, eF) :: (382, o382) :: (383, eT) :: (384, o384) :: (385, Mine.k385) :: [])
noncomputable def t6x7 (P : Params) : BT := puts (t6x6 P) ((386, Mine.k386) :: (387, eT) :: (388, eF) :: (389, o389) :: (390, eT) :: (391, o391) :: (392, Mine.k392) :: (393, Mine.k393) :: (394, eT) :: (395, eF) :: (396, o396) :: (397, eT) :: [])
noncomputable def t6x8 (P : Params) : BT := puts (t6x7 P) ((398, o398) :: (399, Mine.k399) :: (400, Mine.k400) :: (401, eT) :: (402, eF) :: (403, o403) :: (404, eT) :: (405, o405) :: (406, Mine.k406) :: (407, Mine.k407) :: (408, eT) :: (409, eF) :: [])
noncomputable def t6 (P : Params) : BT := puts (t6x8 P) ((410, o410) :: (411, eT) :: (412, o412) :: (413, Mine.k413) :: (414, Mine.k414) :: (415, eT) :: (416, eF) :: (417, o417) :: (418, eT) :: (419, o419) :: (420, Mine.k420) :: (421, Mine.k421) :: [])
noncomputable def L5 (w : World) (os : OsState) : Option (Flow × SharedT × Code × Pos) := segRunT treeTable PySem.Challenge.pw_drawhouse_k14_no_expressions w 11 (some (Value.ref 6)) 1 549 ⟨t5 w.params, nat_lit 304, { }, Array.mk [], { }, nat_lit 588, os⟩ (piecesOf (sl 31 18) env cE { line := 117, col := 0, endLine := 117, endCol := 8 } fr)
noncomputable def R5 (w : World) (os : OsState) : Option (Flow × SharedT × Code × Pos) := some (.next, ⟨t6 w.params, nat_lit 422, { }, Array.mk [], { }, nat_lit 748, os⟩, cE, { line := 245, col := 0, endLine := 258, endCol := 118 })
theorem rL5 : L5 = L5 := rfl
name_quick L5 for Hd.L5 by Hd.rL5
theorem rR5 : R5 = R5 := rfl
name_quick R5 for Hd.R5 by Hd.rR5
theorem q5 : PySem.W.Fast.L5 = PySem.W.Fast.R5 := by kernel_rfl
theorem e5 : L5 = R5 := PySem.W.Fast.L5_eq.trans (q5.trans PySem.W.Fast.R5_eq.symm)
noncomputable def hF0 (P : Params) (r : List Obj) : List Obj := (boot_o_0 P) :: (boot_o_1 P) :: (boot_o_2 P) :: (o3 P) :: (boot_o_4 P) :: (boot_o_5 P) :: (boot_o_6 P) :: (boot_o_7 P) :: (boot_o_8 P) :: (boot_o_9 P) :: (boot_o_10 P) :: eT :: o12 :: o13 :: o14 :: o15 :: r
noncomputable def hF16 (P : Params) (r : List Obj) : List Obj := o16 :: (o17 P) :: eT :: eF :: o20 :: o21 :: eT :: (Mine.k23 P) :: Mine.k24 :: Mine.k25 :: o26 :: o27 :: o28 :: o29 :: (o30 P) :: eT :: r
noncomputable def hF32 (P : Params) (r : List Obj) : List Obj := eF :: o33 :: o34 :: eT :: (Mine.k36 P) :: Mine.k37 :: o38 :: o39 :: o40 :: o41 :: (o42 P) :: eT :: eF :: o45 :: o46 :: eT :: r
noncomputable def hF48 (P : Params) (r : List Obj) : List Obj := (Mine.k48 P) :: Mine.k49 :: o50 :: o51 :: o52 :: o53 :: (o54 P) :: eT :: o56 :: o57 :: o58 :: eT :: eF :: o61 :: eT :: o63 :: r
noncomputable def hF64 (P : Params) (r : List Obj) : List Obj := Mine.k64 :: Mine.k65 :: o66 :: (Mine.k67 P) :: Mine.k68 :: o69 :: o70 :: o71 :: o72 :: (o73 P) :: eT :: o75 :: o76 :: o77 :: eT :: eF :: r
noncomputable def hF80 (P : Params) (r : List Obj) : List Obj := o80 :: eT :: o82 :: Mine.k83 :: Mine.k84 :: o85 :: (Mine.k86 P) :: Mine.k87 :: o88 :: o89 :: o90 :: o91 :: (o92 P) :: eT :: o94 :: o95 :: r
noncomputable def hF96 (P : Params) (r : List Obj) : List Obj := o96 :: eT :: eF :: o99 :: eT :: o101 :: Mine.k102 :: Mine.k103 :: o104 :: (Mine.k105 P) :: Mine.k106 :: o107 :: o108 :: o109 :: o110 :: (o111 P) :: r
noncomputable def hF112 (P : Params) (r : List Obj) : List Obj := eT :: o113 :: o114 :: o115 :: eT :: eF :: o118 :: eT :: o120 :: Mine.k121 :: Mine.k122 :: o123 :: (Mine.k124 P) :: Mine.k125 :: o126 :: o127 :: r
noncomputable def hF128 (P : Params) (r : List Obj) : List Obj := o128 :: o129 :: (o130 P) :: eT :: o132 :: o133 :: o134 :: eT :: eF :: o137 :: eT :: o139 :: Mine.k140 :: Mine.k141 :: o142 :: (Mine.k143 P) :: r
noncomputable def hF144 (P : Params) (r : List Obj) : List Obj := Mine.k144 :: o145 :: o146 :: o147 :: o148 :: (o149 P) :: eT :: o151 :: o152 :: o153 :: eT :: eF :: o156 :: eT :: o158 :: Mine.k159 :: r
noncomputable def hF160 (P : Params) (r : List Obj) : List Obj := Mine.k160 :: o161 :: (Mine.k162 P) :: Mine.k163 :: o164 :: o165 :: o166 :: o167 :: (o168 P) :: eT :: o170 :: o171 :: o172 :: eT :: eF :: o175 :: r
noncomputable def hF176 (P : Params) (r : List Obj) : List Obj := eT :: o177 :: Mine.k178 :: Mine.k179 :: o180 :: (Mine.k181 P) :: Mine.k182 :: o183 :: o184 :: o185 :: o186 :: (o187 P) :: eT :: o189 :: o190 :: o191 :: r
noncomputable def hF192 (P : Params) (r : List Obj) : List Obj := eT :: eF :: o194 :: eT :: o196 :: Mine.k197 :: Mine.k198 :: o199 :: (Mine.k200 P) :: Mine.k201 :: o202 :: o203 :: o204 :: o205 :: (o206 P) :: eT :: r
noncomputable def hF208 (P : Params) (r : List Obj) : List Obj := o208 :: o209 :: o210 :: eT :: eF :: o213 :: eT :: o215 :: Mine.k216 :: Mine.k217 :: o218 :: (Mine.k219 P) :: Mine.k220 :: o221 :: o222 :: o223 :: r
noncomputable def hF224 (P : Params) (r : List Obj) : List Obj := o224 :: (o225 P) :: eT :: o227 :: o228 :: o229 :: eT :: eF :: o232 :: eT :: o234 :: Mine.k235 :: Mine.k236 :: o237 :: (Mine.k238 P) :: Mine.k239 :: r
noncomputable def hF240 (P : Params) (r : List Obj) : List Obj := o240 :: o241 :: o242 :: o243 :: (o244 P) :: eT :: o246 :: o247 :: o248 :: eT :: eF :: o251 :: eT :: o253 :: Mine.k254 :: Mine.k255 :: r
noncomputable def hF256 (P : Params) (r : List Obj) : List Obj := o256 :: (Mine.k257 P) :: Mine.k258 :: o259 :: o260 :: eT :: eF :: o263 :: Mine.k264 :: Mine.k265 :: eT :: eF :: o268 :: Mine.k269 :: Mine.k270 :: eT :: r
noncomputable def hF272 (P : Params) (r : List Obj) : List Obj := eF :: o273 :: Mine.k274 :: Mine.k275 :: eT :: eF :: o278 :: eT :: o280 :: Mine.k281 :: Mine.k282 :: eT :: eF :: o285 :: eT :: o287 :: r
noncomputable def hF288 (P : Params) (r : List Obj) : List Obj := Mine.k288 :: Mine.k289 :: eT :: eF :: o292 :: eT :: o294 :: Mine.k295 :: Mine.k296 :: eT :: eF :: o299 :: eT :: o301 :: Mine.k302 :: Mine.k303 :: r
noncomputable def hF304 (P : Params) (r : List Obj) : List Obj := eT :: eF :: o306 :: eT :: o308 :: Mine.k309 :: Mine.k310 :: eT :: eF :: o313 :: eT :: o315 :: Mine.k316 :: Mine.k317 :: eT :: eF :: r
noncomputable def hF320 (P : Params) (r : List Obj) : List Obj := o320 :: eT :: o322 :: Mine.k323 :: Mine.k324 :: eT :: eF :: o327 :: eT :: o329 :: Mine.k330 :: Mine.k331 :: eT :: eF :: o334 :: Mine.k335 :: r
noncomputable def hF336 (P : Params) (r : List Obj) : List Obj := Mine.k336 :: eT :: eF :: o339 :: Mine.k340 :: Mine.k341 :: eT :: eF :: o344 :: Mine.k345 :: Mine.k346 :: eT :: eF :: o349 :: eT :: o351 :: r
noncomputable def hF352 (P : Params) (r : List Obj) : List Obj := Mine.k352 :: Mine.k353 :: eT :: eF :: o356 :: eT :: o358 :: Mine.k359 :: Mine.k360 :: eT :: eF :: o363 :: eT :: o365 :: Mine.k366 :: Mine.k367 :: r
noncomputable def hF368 (P : Params) (r : List Obj) : List Obj := eT :: eF :: o370 :: Mine.k371 :: Mine.k372 :: eT :: eF :: o375 :: eT :: o377 :: Mine.k378 :: Mine.k379 :: eT :: eF :: o382 :: eT :: r
noncomputable def hF384 (P : Params) (r : List Obj) : List Obj := o384 :: Mine.k385 :: Mine.k386 :: eT :: eF :: o389 :: eT :: o391 :: Mine.k392 :: Mine.k393 :: eT :: eF :: o396 :: eT :: o398 :: Mine.k399 :: r
noncomputable def hF400 (P : Params) (r : List Obj) : List Obj := Mine.k400 :: eT :: eF :: o403 :: eT :: o405 :: Mine.k406 :: Mine.k407 :: eT :: eF :: o410 :: eT :: o412 :: Mine.k413 :: Mine.k414 :: eT :: r
noncomputable def hF416 (P : Params) (r : List Obj) : List Obj := eF :: o417 :: eT :: o419 :: Mine.k420 :: Mine.k421 :: r
noncomputable def hF (P : Params) : Heap := ⟨Array.mk (hF0 P (hF16 P (hF32 P (hF48 P (hF64 P (hF80 P (hF96 P (hF112 P (hF128 P (hF144 P (hF160 P (hF176 P (hF192 P (hF208 P (hF224 P (hF240 P (hF256 P (hF272 P (hF288 P (hF304 P (hF320 P (hF336 P (hF352 P (hF368 P (hF384 P (hF400 P (hF416 P ([])))))))))))))))))))))))))))), { }⟩
noncomputable def Lf (w : World) (os : OsState) : Option Shared := topRun treeTable PySem.Challenge.pw_drawhouse_k14_no_expressions w 11 (some (Value.ref 6)) 2 (SharedT.abs ⟨t6 w.params, nat_lit 422, { }, Array.mk [], { }, nat_lit 748, os⟩) ⟨doneF .next, cE, { line := 245, col := 0, endLine := 258, endCol := 118 }, fr⟩
noncomputable def Rf (w : World) (os : OsState) : Option Shared := some ⟨hF w.params, Array.mk [], { }, nat_lit 748, os⟩
theorem rLf : Lf = Lf := rfl
name_quick Lf for Hd.Lf by Hd.rLf
theorem rRf : Rf = Rf := rfl
name_quick Rf for Hd.Rf by Hd.rRf
theorem qf : PySem.W.Fast.Lf = PySem.W.Fast.Rf := by kernel_rfl
theorem ef : Lf = Rf := PySem.W.Fast.Lf_eq.trans (qf.trans PySem.W.Fast.Rf_eq.symm)
theorem ed : (behindTheImports PySem.Challenge.pw_drawhouse_k14_no_expressions).drop 49 = [] := by kernel_rfl
theorem pd {w : World} {k m n N : Nat} {s s' r : Shared} {c : Code} {pos p' : Pos} (h : segRun treeTable PySem.Challenge.pw_drawhouse_k14_no_expressions w 11 (some (Value.ref 6)) 1 n s (piecesOf (sl k m) env c pos fr) = some (.next, s', c, p'))
    (k2 : topRun treeTable PySem.Challenge.pw_drawhouse_k14_no_expressions w 11 (some (Value.ref 6)) N s' (restOf ((behindTheImports PySem.Challenge.pw_drawhouse_k14_no_expressions).drop (k + m)) env c p' fr) = some r) : topRun treeTable PySem.Challenge.pw_drawhouse_k14_no_expressions w 11 (some (Value.ref 6)) (n + N) s (restOf ((behindTheImports PySem.Challenge.pw_drawhouse_k14_no_expressions).drop k) env c pos fr) = some r := by
  have z := piece_app h k2
  have e : sl k m ++ (behindTheImports PySem.Challenge.pw_drawhouse_k14_no_expressions).drop (k + m) = (behindTheImports PySem.Challenge.pw_drawhouse_k14_no_expressions).drop k := by
    unfold sl
    rw [← List.drop_drop]
    exact List.take_append_drop m _
  rwa [e] at z
theorem run (w : World) (os : OsState) : topRun treeTable PySem.Challenge.pw_drawhouse_k14_no_expressions w 11 (some (Value.ref 6)) (12 + (1 + (622 + (736 + (736 + (736 + (776 + (549 + (2))))))))) ⟨boot_heap w.params, Array.mk [], boot_drawn, boot_toks, os⟩ (topStub PySem.Challenge.pw_drawhouse_k14_no_expressions) = some ⟨hF w.params, Array.mk [], { }, nat_lit 748, os⟩ :=
  go_top (congrFun (congrFun ep w) os) (piece_block (congrFun (congrFun eb w) os)
    (pd (k := 0) (m := 4) (segRun_of (congrFun (congrFun e0 w) os))
    (pd (k := 4) (m := 3) (segRun_of (congrFun (congrFun e1 w) os))
    (pd (k := 7) (m := 3) (segRun_of (congrFun (congrFun e2 w) os))
    (pd (k := 10) (m := 3) (segRun_of (congrFun (congrFun e3 w) os))
    (pd (k := 13) (m := 18) (segRun_of (congrFun (congrFun e4 w) os))
    (pd (k := 31) (m := 18) (segRun_of (congrFun (congrFun e5 w) os))
    (by rw [show 31 + 18 = 49 from rfl, ed]; exact piece_nil (congrFun (congrFun ef w) os)))))))))
noncomputable def qv : Program := { PySem.Challenge.pw_drawhouse_k14_no_expressions with main := { PySem.Challenge.pw_drawhouse_k14_no_expressions.main with body := (1 :: 2 :: 3 :: 4 :: 5 :: 6 :: 7 :: 8 :: 9 :: 10 :: 11 :: 12 :: 13 :: 14 :: 16 :: 17 :: 18 :: 19 :: 21 :: 22 :: 23 :: 24 :: 25 :: 26 :: 27 :: 28 :: 29 :: 31 :: 32 :: 33 :: 34 :: 35 :: 36 :: 37 :: 38 :: 39 :: 40 :: 41 :: 42 :: 43 :: 44 :: 45 :: 46 :: 47 :: 48 :: []).filterMap fun i => PySem.Challenge.pw_drawhouse_k14_no_expressions.main.body[i]? } }
noncomputable def loose : List Str := []
noncomputable def lv : List (Str × WData) := []
noncomputable def xt (s : Shared) : Bool := xlAt qv lv s && recOk (RowW.records (OpenRow.toRowW (OpenLaw.row PySem.Challenge.rw_drawhouse_k14_no_expressions))) s
noncomputable def as : List Addr := nat_lit 2 :: nat_lit 3 :: nat_lit 23 :: nat_lit 24 :: nat_lit 25 :: nat_lit 36 :: nat_lit 37 :: nat_lit 48 :: nat_lit 49 :: nat_lit 64 :: nat_lit 65 :: nat_lit 67 :: nat_lit 68 :: nat_lit 83 :: nat_lit 84 :: nat_lit 86 :: nat_lit 87 :: nat_lit 102 :: nat_lit 103 :: nat_lit 105 :: nat_lit 106 :: nat_lit 121 :: nat_lit 122 :: nat_lit 124 :: nat_lit 125 :: nat_lit 140 :: nat_lit 141 :: nat_lit 143 :: nat_lit 144 :: nat_lit 159 :: nat_lit 160 :: nat_lit 162 :: nat_lit 163 :: nat_lit 178 :: nat_lit 179 :: nat_lit 181 :: nat_lit 182 :: nat_lit 197 :: nat_lit 198 :: nat_lit 200 :: nat_lit 201 :: nat_lit 216 :: nat_lit 217 :: nat_lit 219 :: nat_lit 220 :: nat_lit 235 :: nat_lit 236 :: nat_lit 238 :: nat_lit 239 :: nat_lit 254 :: nat_lit 255 :: nat_lit 257 :: nat_lit 258 :: nat_lit 264 :: nat_lit 265 :: nat_lit 269 :: nat_lit 270 :: nat_lit 274 :: nat_lit 275 :: nat_lit 281 :: nat_lit 282 :: nat_lit 288 :: nat_lit 289 :: nat_lit 295 :: nat_lit 296 :: nat_lit 302 :: nat_lit 303 :: nat_lit 309 :: nat_lit 310 :: nat_lit 316 :: nat_lit 317 :: nat_lit 323 :: nat_lit 324 :: nat_lit 330 :: nat_lit 331 :: nat_lit 335 :: nat_lit 336 :: nat_lit 340 :: nat_lit 341 :: nat_lit 345 :: nat_lit 346 :: nat_lit 352 :: nat_lit 353 :: nat_lit 359 :: nat_lit 360 :: nat_lit 366 :: nat_lit 367 :: nat_lit 371 :: nat_lit 372 :: nat_lit 378 :: nat_lit 379 :: nat_lit 385 :: nat_lit 386 :: nat_lit 392 :: nat_lit 393 :: nat_lit 399 :: nat_lit 400 :: nat_lit 406 :: nat_lit 407 :: nat_lit 413 :: nat_lit 414 :: nat_lit 420 :: nat_lit 421 :: []
theorem ke (P : Params) : as = (Mine.myK P).map (·.1) := by kernel_rfl
noncomputable def Ls (w : World) : Bool × Nat × Option Value := ((boot_heap w.params).isNs mainGlobals && (Array.mk [] : Array GenState).size == 0, (boot_heap w.params).objs.size, (boot_heap w.params).nsMap mainGlobals "__annotations__")
noncomputable def Rs (w : World) : Bool × Nat × Option Value := (true, 11, some (Value.ref 6))
theorem es : Ls = Rs := by kernel_rfl
noncomputable def Lk0 (w : World) (os : OsState) : Bool := staticsOk (importedModules PySem.Challenge.pw_drawhouse_k14_no_expressions.main.body) (boot_heap w.params) (hF w.params) && namesBound PySem.Challenge.pw_drawhouse_k14_no_expressions (hF w.params) && gensDone ⟨hF w.params, Array.mk [], { }, nat_lit 748, os⟩ && laidKept (boot_heap w.params) (hF w.params)
noncomputable def Rk0 (_ : World) (_ : OsState) : Bool := true
theorem rLk0 : Lk0 = Lk0 := rfl
name_quick Lk0 for Hd.Lk0 by Hd.rLk0
theorem qk0 : PySem.W.Fast.Lk0 = Rk0 := by kernel_rfl
theorem ek0 : Lk0 = Rk0 := PySem.W.Fast.Lk0_eq.trans qk0
noncomputable def Lk1 (w : World) (os : OsState) := (openSeen qv loose (importedModules PySem.Challenge.pw_drawhouse_k14_no_expressions.main.body) xt true ⟨hF w.params, Array.mk [], { }, nat_lit 748, os⟩).1
noncomputable def Rk1 (_ : World) (_ : OsState) := (openGood qv loose).1
theorem rLk1 : Lk1 = Lk1 := rfl
name_quick Lk1 for Hd.Lk1 by Hd.rLk1
theorem rRk1 : Rk1 = Rk1 := rfl
name_quick Rk1 for Hd.Rk1 by Hd.rRk1
theorem qk1 : PySem.W.Fast.Lk1 = PySem.W.Fast.Rk1 := by kernel_rfl
theorem ek1 : Lk1 = Rk1 := PySem.W.Fast.Lk1_eq.trans (qk1.trans PySem.W.Fast.Rk1_eq.symm)
noncomputable def Lk2 (w : World) (os : OsState) := (openSeen qv loose (importedModules PySem.Challenge.pw_drawhouse_k14_no_expressions.main.body) xt true ⟨hF w.params, Array.mk [], { }, nat_lit 748, os⟩).2.1
noncomputable def Rk2 (_ : World) (_ : OsState) := (openGood qv loose).2.1
theorem rLk2 : Lk2 = Lk2 := rfl
name_quick Lk2 for Hd.Lk2 by Hd.rLk2
theorem qk2 : PySem.W.Fast.Lk2 = Rk2 := by kernel_rfl
theorem ek2 : Lk2 = Rk2 := PySem.W.Fast.Lk2_eq.trans qk2
noncomputable def Lk3 (w : World) (os : OsState) := (openSeen qv loose (importedModules PySem.Challenge.pw_drawhouse_k14_no_expressions.main.body) xt true ⟨hF w.params, Array.mk [], { }, nat_lit 748, os⟩).2.2.1
noncomputable def Rk3 (_ : World) (_ : OsState) := (openGood qv loose).2.2.1
theorem rLk3 : Lk3 = Lk3 := rfl
name_quick Lk3 for Hd.Lk3 by Hd.rLk3
theorem qk3 : PySem.W.Fast.Lk3 = Rk3 := by kernel_rfl
theorem ek3 : Lk3 = Rk3 := PySem.W.Fast.Lk3_eq.trans qk3
noncomputable def Lk4 (w : World) (os : OsState) := (openSeen qv loose (importedModules PySem.Challenge.pw_drawhouse_k14_no_expressions.main.body) xt true ⟨hF w.params, Array.mk [], { }, nat_lit 748, os⟩).2.2.2.1
noncomputable def Rk4 (_ : World) (_ : OsState) := (openGood qv loose).2.2.2.1
theorem rLk4 : Lk4 = Lk4 := rfl
name_quick Lk4 for Hd.Lk4 by Hd.rLk4
theorem qk4 : PySem.W.Fast.Lk4 = Rk4 := by kernel_rfl
theorem ek4 : Lk4 = Rk4 := PySem.W.Fast.Lk4_eq.trans qk4
noncomputable def Lk5 (w : World) (os : OsState) := (openSeen qv loose (importedModules PySem.Challenge.pw_drawhouse_k14_no_expressions.main.body) xt true ⟨hF w.params, Array.mk [], { }, nat_lit 748, os⟩).2.2.2.2.1
noncomputable def Rk5 (_ : World) (_ : OsState) := (openGood qv loose).2.2.2.2.1
theorem rLk5 : Lk5 = Lk5 := rfl
name_quick Lk5 for Hd.Lk5 by Hd.rLk5
theorem rRk5 : Rk5 = Rk5 := rfl
name_quick Rk5 for Hd.Rk5 by Hd.rRk5
theorem qk5 : PySem.W.Fast.Lk5 = PySem.W.Fast.Rk5 := by kernel_rfl
theorem ek5 : Lk5 = Rk5 := PySem.W.Fast.Lk5_eq.trans (qk5.trans PySem.W.Fast.Rk5_eq.symm)
noncomputable def Lk6 (w : World) (os : OsState) := (openSeen qv loose (importedModules PySem.Challenge.pw_drawhouse_k14_no_expressions.main.body) xt true ⟨hF w.params, Array.mk [], { }, nat_lit 748, os⟩).2.2.2.2.2.1
noncomputable def Rk6 (_ : World) (_ : OsState) := (openGood qv loose).2.2.2.2.2.1
theorem rLk6 : Lk6 = Lk6 := rfl
name_quick Lk6 for Hd.Lk6 by Hd.rLk6
theorem rRk6 : Rk6 = Rk6 := rfl
name_quick Rk6 for Hd.Rk6 by Hd.rRk6
theorem qk6 : PySem.W.Fast.Lk6 = PySem.W.Fast.Rk6 := by kernel_rfl
theorem ek6 : Lk6 = Rk6 := PySem.W.Fast.Lk6_eq.trans (qk6.trans PySem.W.Fast.Rk6_eq.symm)
noncomputable def Lk7 (w : World) (os : OsState) := (openSeen qv loose (importedModules PySem.Challenge.pw_drawhouse_k14_no_expressions.main.body) xt true ⟨hF w.params, Array.mk [], { }, nat_lit 748, os⟩).2.2.2.2.2.2.1
noncomputable def Rk7 (_ : World) (_ : OsState) := (openGood qv loose).2.2.2.2.2.2.1
theorem rLk7 : Lk7 = Lk7 := rfl
name_quick Lk7 for Hd.Lk7 by Hd.rLk7
theorem rRk7 : Rk7 = Rk7 := rfl
name_quick Rk7 for Hd.Rk7 by Hd.rRk7
theorem qk7 : PySem.W.Fast.Lk7 = PySem.W.Fast.Rk7 := by kernel_rfl
theorem ek7 : Lk7 = Rk7 := PySem.W.Fast.Lk7_eq.trans (qk7.trans PySem.W.Fast.Rk7_eq.symm)
noncomputable def Lk8 (w : World) (os : OsState) := (openSeen qv loose (importedModules PySem.Challenge.pw_drawhouse_k14_no_expressions.main.body) xt true ⟨hF w.params, Array.mk [], { }, nat_lit 748, os⟩).2.2.2.2.2.2.2.1
noncomputable def Rk8 (_ : World) (_ : OsState) := (openGood qv loose).2.2.2.2.2.2.2.1
theorem rLk8 : Lk8 = Lk8 := rfl
name_quick Lk8 for Hd.Lk8 by Hd.rLk8
theorem rRk8 : Rk8 = Rk8 := rfl
name_quick Rk8 for Hd.Rk8 by Hd.rRk8
theorem qk8 : PySem.W.Fast.Lk8 = PySem.W.Fast.Rk8 := by kernel_rfl
theorem ek8 : Lk8 = Rk8 := PySem.W.Fast.Lk8_eq.trans (qk8.trans PySem.W.Fast.Rk8_eq.symm)
noncomputable def Lk9 (w : World) (os : OsState) := (openSeen qv loose (importedModules PySem.Challenge.pw_drawhouse_k14_no_expressions.main.body) xt true ⟨hF w.params, Array.mk [], { }, nat_lit 748, os⟩).2.2.2.2.2.2.2.2
noncomputable def Rk9 (_ : World) (_ : OsState) := (openGood qv loose).2.2.2.2.2.2.2.2
theorem rLk9 : Lk9 = Lk9 := rfl
name_quick Lk9 for Hd.Lk9 by Hd.rLk9
theorem rRk9 : Rk9 = Rk9 := rfl
name_quick Rk9 for Hd.Rk9 by Hd.rRk9
theorem qk9 : PySem.W.Fast.Lk9 = PySem.W.Fast.Rk9 := by kernel_rfl
theorem ek9 : Lk9 = Rk9 := PySem.W.Fast.Lk9_eq.trans (qk9.trans PySem.W.Fast.Rk9_eq.symm)
noncomputable def Lk10 (w : World) (_ : OsState) : List (Option Obj) := as.map (hF w.params).get?
noncomputable def Rk10 (w : World) (_ : OsState) : List (Option Obj) := (Mine.myK w.params).map fun p => some p.2
theorem ek10 : Lk10 = Rk10 := by kernel_rfl
theorem c {α : Type} {f g : World → OsState → α} (h : f = g) {w : World} {os : OsState} : f w os = g w os := h ▸ rfl
theorem ek (w : World) : (fun os => ((staticsOk (importedModules PySem.Challenge.pw_drawhouse_k14_no_expressions.main.body) (boot_heap w.params) (hF w.params) && namesBound PySem.Challenge.pw_drawhouse_k14_no_expressions (hF w.params) && gensDone ⟨hF w.params, Array.mk [], { }, nat_lit 748, os⟩ && laidKept (boot_heap w.params) (hF w.params)), openSeen qv loose (importedModules PySem.Challenge.pw_drawhouse_k14_no_expressions.main.body) xt true ⟨hF w.params, Array.mk [], { }, nat_lit 748, os⟩, Hook.obs (kHook Mine.myK as ke) ⟨hF w.params, Array.mk [], { }, nat_lit 748, os⟩)) = fun _ => (true, openGood qv loose, Hook.val (kHook Mine.myK as ke) w) :=
  funext fun os => Prod.ext (congrFun (congrFun ek0 w) os) (Prod.ext (Prod.ext (c ek1) (Prod.ext (c ek2) (Prod.ext (c ek3) (Prod.ext (c ek4) (Prod.ext (c ek5) (Prod.ext (c ek6) (Prod.ext (c ek7) (Prod.ext (c ek8) (c ek9))))))))) (congrFun (congrFun ek10 w) os))
theorem op : opening PySem.Challenge.pw_drawhouse_k14_no_expressions = plainProg PySem.Challenge.pw_drawhouse_k14_no_expressions.main.scope.names := by kernel_rfl
theorem fn (s : Shared) : fenceModules? PySem.Challenge.pw_drawhouse_k14_no_expressions s = some s := by kernel_rfl
theorem left : LeftO PySem.Challenge.pw_drawhouse_k14_no_expressions qv loose xt (Hook.obs (kHook Mine.myK as ke)) (Hook.val (kHook Mine.myK as ke)) 8424 true := by
  refine LeftO.of_pieces (boot_open op rfl fn) (congrFun es) run rfl ek
end Hd
open PySem PySem.W PyProof.Rows
set_option maxRecDepth 100000 in
set_option maxHeartbeats 0 in
theorem PySem.Challenge.cw_drawhouse_k14_no_expressions_holds : PySem.Challenge.rw_drawhouse_k14_no_expressions.Holds := by
  w_on; o_law
  refine holds_open (r := OpenLaw.row PySem.Challenge.rw_drawhouse_k14_no_expressions) (q := Hd.qv) (loose := Hd.loose) (Xt := Hd.xt) (XP := XL Hd.qv Hd.lv) (Yf := Hook.obs (kHook Mine.myK Hd.as Hd.ke)) (Ya := Hook.val (kHook Mine.myK Hd.as Hd.ke))
    (YP := Hook.says (kHook Mine.myK Hd.as Hd.ke)) Hd.left (Hook.of (kHook Mine.myK Hd.as Hd.ke)) (Hook.keeps (kHook Mine.myK Hd.as Hd.ke)) (fun s e => xl_of s (Bool.and_eq_true_iff.mp e).1) XL.keeps (by rfl) (by rfl) (by rfl)
    (fun s e => recFacts_of (Bool.and_eq_true_iff.mp e).2) rfl (by assumption) (by decide +kernel) ⟨rfl, rfl, rfl, rfl, rfl, by decide +kernel⟩ ?hw ?hc
  (case hw => w_witness2)
  k_fill
  refine Mine.walk (l := PySem.Challenge.rw_drawhouse_k14_no_expressions) rfl rfl (fun w h Y => PySem.W.kIn_of Y) ?F
  case F =>
    intro w mg fa h KX G hmg
    refine' Mine.all_mk KX G hmg (Mine.fi ?_ ?_ ?_ ?_) (Mine.fi ?_ ?_ ?_ ?_) (Mine.fi ?_ ?_ ?_ ?_) (Mine.fi ?_ ?_ ?_ ?_) (Mine.fi ?_ ?_ ?_ ?_) (Mine.fi ?_ ?_ ?_ ?_) (Mine.fi ?_ ?_ ?_ ?_) (Mine.fi ?_ ?_ ?_ ?_) (Mine.fi ?_ ?_ ?_ ?_) (Mine.fi ?_ ?_ ?_ ?_) (Mine.fi ?_ ?_ ?_ ?_) (Mine.fi ?_ ?_ ?_ ?_) (Mine.fi ?_ ?_ ?_ ?_) (Mine.fi ?_ ?_ ?_ ?_) (Mine.fi ?_ ?_ ?_ ?_) (Mine.fi ?_ ?_ ?_ ?_) (Mine.fi ?_ ?_ ?_ ?_) (Mine.fi ?_ ?_ ?_ ?_) (Mine.fi ?_ ?_ ?_ ?_) (Mine.fi ?_ ?_ ?_ ?_) (Mine.fi ?_ ?_ ?_ ?_) (Mine.fi ?_ ?_ ?_ ?_) (Mine.fi ?_ ?_ ?_ ?_) (Mine.fi ?_ ?_ ?_ ?_) (Mine.fi ?_ ?_ ?_ ?_) ?_ ?_ ?_ (Mine.cl_at ?_) ?_ (Mine.cl_at ?_) ?_ (Mine.cl_at ?_) ?_ (Mine.cl_at ?_) ?_ (Mine.cl_at ?_) ?_ (Mine.cl_at ?_) ?_ (Mine.cl_at ?_) ?_ (Mine.cl_at ?_) ?_ (Mine.cl_at ?_) ?_ (Mine.cl_at ?_) ?_ (Mine.cl_at ?_) ?_ (Mine.cl_at ?_) ?_ (Mine.cl_at ?_) ?_ ?_ ?_ ?_ ?_ ?_ ?_ ?uSK ?uNI ?uND ?_ ?_ ?_ ?_ ?_ ?_ ?_ ?_ ?_ ?_ ?_ ?_ ?_ ?_ ?_ ?_ ?_ ?_ ?_ ?_
    any_goals k_is
    (case uSK => rfl); (case uNI => rfl); (case uND => decide)
#print axioms PySem.Challenge.cw_drawhouse_k14_no_expressions_holds
