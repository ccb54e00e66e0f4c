import PyProof.Rows.All
import Wide.All
import OpenK.AllK
import Wide.FinOn
import Lean
import PyProof.EqAt
import PyProof.EqKinds
import PyProof.TupleCall
import PyProof.NeKinds
import PyProof.Rows.SumAny
import PyProof.Rows.SortWalk
import PyProof.WalksEnum
import PyProof.AttrMissHeap
import KE.KDictOf
import PyProof.DictWalks
import KE.KRevIter
import PyProof.Rows.SeqMore2
import Wide.Seal
import KE.KDictList
import PyProof.ZipIter
import PyProof.TupleIter
import PyProof.ListMulRoad
import PyProof.TupleOps
import PyProof.FactsAll.tuple
import PyProof.Rows.CallKwBuiltin
import PyProof.WalkInts
import PyProof.DictValues
import KE.KSortTup
import KE.KEqDict
import OpenK.KCell
import KE.KNest
import KE.KDictSum
import PySem.Challenge.RW_leafpages_k43_least_rooms
set_option bootstrap.genMatcherCode false
set_option Elab.async false
set_option linter.all false
set_option maxRecDepth 100000
set_option maxHeartbeats 4000000
namespace L3
open PySem
theorem lcons {P : List Value → Prop} {n : Nat} (h : ∀ (a : Value) (us : List Value), us.length = n → P (a :: us)) : ∀ us : List Value, us.length = n + 1 → P us := fun us hl => by
  cases us with
  | nil => cases hl
  | cons a us => exact h a us (Nat.succ.inj hl)
theorem lnone {P : List Value → Prop} (h : P []) : ∀ us : List Value, us.length = 0 → P us := fun us hl => by
  cases us with
  | nil => exact h
  | cons a us => cases hl
theorem bind1 {fd : FuncData} {s : Str} (h : ∀ a : Value, bindArgs fd ⟨[a], []⟩ = pure ([s].zip [a])) : ∀ us : List Value, us.length = 1 → bindArgs fd ⟨us, []⟩ = pure ([s].zip us) :=
  lcons (P := fun us => bindArgs fd ⟨us, []⟩ = pure ([s].zip (us))) fun a => lnone (P := fun us => bindArgs fd ⟨a :: us, []⟩ = pure ([s].zip (a :: us))) (h a)
theorem bind2 {fd : FuncData} {s t : Str} (h : ∀ a b : Value, bindArgs fd ⟨[a, b], []⟩ = pure ([s, t].zip [a, b])) : ∀ us : List Value, us.length = 2 → bindArgs fd ⟨us, []⟩ = pure ([s, t].zip us) :=
  lcons (P := fun us => bindArgs fd ⟨us, []⟩ = pure ([s, t].zip (us))) fun a => lcons (P := fun us => bindArgs fd ⟨a :: us, []⟩ = pure ([s, t].zip (a :: us))) fun b => lnone (P := fun us => bindArgs fd ⟨a :: b :: us, []⟩ = pure ([s, t].zip (a :: b :: us))) (h a b)
theorem bind3 {fd : FuncData} {s t u : Str} (h : ∀ a b c : Value, bindArgs fd ⟨[a, b, c], []⟩ = pure ([s, t, u].zip [a, b, c])) : ∀ us : List Value, us.length = 3 → bindArgs fd ⟨us, []⟩ = pure ([s, t, u].zip us) :=
  lcons (P := fun us => bindArgs fd ⟨us, []⟩ = pure ([s, t, u].zip (us))) fun a => lcons (P := fun us => bindArgs fd ⟨a :: us, []⟩ = pure ([s, t, u].zip (a :: us))) fun b => lcons (P := fun us => bindArgs fd ⟨a :: b :: us, []⟩ = pure ([s, t, u].zip (a :: b :: us))) fun c => lnone (P := fun us => bindArgs fd ⟨a :: b :: c :: us, []⟩ = pure ([s, t, u].zip (a :: b :: c :: us))) (h a b c)
theorem bind4 {fd : FuncData} {s t u v : Str} (h : ∀ a b c d : Value, bindArgs fd ⟨[a, b, c, d], []⟩ = pure ([s, t, u, v].zip [a, b, c, d])) : ∀ us : List Value, us.length = 4 → bindArgs fd ⟨us, []⟩ = pure ([s, t, u, v].zip us) :=
  lcons (P := fun us => bindArgs fd ⟨us, []⟩ = pure ([s, t, u, v].zip (us))) fun a => lcons (P := fun us => bindArgs fd ⟨a :: us, []⟩ = pure ([s, t, u, v].zip (a :: us))) fun b => lcons (P := fun us => bindArgs fd ⟨a :: b :: us, []⟩ = pure ([s, t, u, v].zip (a :: b :: us))) fun c => lcons (P := fun us => bindArgs fd ⟨a :: b :: c :: us, []⟩ = pure ([s, t, u, v].zip (a :: b :: c :: us))) fun d => lnone (P := fun us => bindArgs fd ⟨a :: b :: c :: d :: us, []⟩ = pure ([s, t, u, v].zip (a :: b :: c :: d :: us))) (h a b c d)
theorem bind5 {fd : FuncData} {s t u v w : Str} (h : ∀ a b c d e : Value, bindArgs fd ⟨[a, b, c, d, e], []⟩ = pure ([s, t, u, v, w].zip [a, b, c, d, e])) : ∀ us : List Value, us.length = 5 → bindArgs fd ⟨us, []⟩ = pure ([s, t, u, v, w].zip us) :=
  lcons (P := fun us => bindArgs fd ⟨us, []⟩ = pure ([s, t, u, v, w].zip (us))) fun a => lcons (P := fun us => bindArgs fd ⟨a :: us, []⟩ = pure ([s, t, u, v, w].zip (a :: us))) fun b => lcons (P := fun us => bindArgs fd ⟨a :: b :: us, []⟩ = pure ([s, t, u, v, w].zip (a :: b :: us))) fun c => lcons (P := fun us => bindArgs fd ⟨a :: b :: c :: us, []⟩ = pure ([s, t, u, v, w].zip (a :: b :: c :: us))) fun d => lcons (P := fun us => bindArgs fd ⟨a :: b :: c :: d :: us, []⟩ = pure ([s, t, u, v, w].zip (a :: b :: c :: d :: us))) fun e => lnone (P := fun us => bindArgs fd ⟨a :: b :: c :: d :: e :: us, []⟩ = pure ([s, t, u, v, w].zip (a :: b :: c :: d :: e :: us))) (h a b c d e)
end L3
namespace L2
open PySem PySem.Spec PyProof.Rows
noncomputable abbrev Key := Sum Int Str
noncomputable def keyIs : Key → Value → Bool
  | .inl k, v => Value.isInt k v
  | .inr x, v => Value.isStrOf x v
noncomputable def keyH (w : World) : Key → Int
  | .inl k => hashInt k
  | .inr x => hashStr w x
theorem keyIs_shape : ∀ {k : Key} {v : Value}, keyIs k v = true → (∃ i t, k = Sum.inl i ∧ v = Value.int i t) ∨ (∃ x t, k = Sum.inr x ∧ v = Value.str x t)
  | .inl i, v, h => by
    obtain ⟨t, e⟩ := Value.isInt_shape (k := i) (v := v) h
    exact .inl ⟨i, t, rfl, e⟩
  | .inr x, v, h => by
    obtain ⟨t, e⟩ := Value.isStrOf_shape (x := x) (v := v) h
    exact .inr ⟨x, t, rfl, e⟩
theorem keyIs_int (i : Int) (t : Tok) : keyIs (.inl i) (.int i t) = true := by simp [keyIs, Value.isInt]
theorem keyIs_str (x : Str) (t : Tok) : keyIs (.inr x) (.str x t) = true := by simp [keyIs, Value.isStrOf]
theorem key_ll (a b : Int) : decide ((Sum.inl a : Key) = Sum.inl b) = (a == b) := by
  by_cases e : a = b
  · subst e; simp
  · have h : ¬ (Sum.inl a : Key) = Sum.inl b := fun q => e (Sum.inl.inj q)
    rw [decide_eq_false h]
    exact (beq_eq_false_iff_ne.mpr e).symm
theorem key_rr (a b : Str) : decide ((Sum.inr a : Key) = Sum.inr b) = decide (a = b) := by
  by_cases e : a = b
  · subst e; simp
  · have h : ¬ (Sum.inr a : Key) = Sum.inr b := fun q => e (Sum.inr.inj q)
    rw [decide_eq_false h, decide_eq_false e]
theorem key_lr (a : Int) (b : Str) : decide ((Sum.inl a : Key) = Sum.inr b) = false := decide_eq_false (fun q => nomatch q)
theorem key_rl (a : Str) (b : Int) : decide ((Sum.inr a : Key) = Sum.inl b) = false := decide_eq_false (fun q => nomatch q)
noncomputable def mixKind (prog : Program) (w : World) : PySem.KeyKind prog w Key where
  is := keyIs
  hash := keyH w
  inj := fun v a b ha hb => by
    rcases keyIs_shape ha with ⟨i, t, rfl, rfl⟩ | ⟨x, t, rfl, rfl⟩
    · rcases keyIs_shape hb with ⟨j, u, rfl, e⟩ | ⟨y, u, rfl, e⟩
      · injection e with e1 _; rw [e1]
      · exact nomatch e
    · rcases keyIs_shape hb with ⟨j, u, rfl, e⟩ | ⟨y, u, rfl, e⟩
      · exact nomatch e
      · injection e with e1 _; rw [e1]
  byValue := fun k v h => by
    rcases keyIs_shape h with ⟨i, t, rfl, rfl⟩ | ⟨x, t, rfl, rfl⟩ <;> rfl
  pyHash := fun hv h => by
    rcases keyIs_shape hv with ⟨i, t, rfl, rfl⟩ | ⟨x, t, rfl, rfl⟩
    · exact wpAny_pyHash_int h
    · exact wpAny_pyHash_str h
  eqBool := fun hu hv h => by
    rcases keyIs_shape hu with ⟨i, t, rfl, rfl⟩ | ⟨x, t, rfl, rfl⟩
    · rcases keyIs_shape hv with ⟨j, u, rfl, rfl⟩ | ⟨y, u, rfl, rfl⟩
      · rw [key_ll] at h; exact wpAny_eqBool_int h
      · rw [key_lr] at h; exact SeqAt.EqAt.int_str i t y u _ _ _ _ h
    · rcases keyIs_shape hv with ⟨j, u, rfl, rfl⟩ | ⟨y, u, rfl, rfl⟩
      · rw [key_rl] at h; exact SeqAt.EqAt.str_int x t j u _ _ _ _ h
      · rw [key_rr] at h; exact wpAny_eqBool_str h
  «strs» := fun k x t v h => by
    rcases keyIs_shape h with ⟨i, u, rfl, e⟩ | ⟨y, u, rfl, e⟩
    · exact nomatch e
    · injection e with e1 _
      subst e1
      cases v <;> rfl
theorem mixKind_int (prog : Program) (w : World) (i : Int) (t : Tok) : (mixKind prog w).is (.inl i) (.int i t) = true := keyIs_int i t
theorem mixKind_str (prog : Program) (w : World) (x : Str) (t : Tok) : (mixKind prog w).is (.inr x) (.str x t) = true := keyIs_str x t
end L2
namespace L2
open PySem PySem.Spec PyProof.Rows
inductive V where
  | non | bl (b : Bool) | int (i : Int) | str (x : Str) | byt (b : Array UInt8) | flt (b : UInt64) | ref (a : Addr) | ty (n : String)
  deriving DecidableEq
noncomputable def RelV : V → Value → Prop
  | .non, u => u = Value.none
  | .bl b, u => u = Value.bool b
  | .int i, u => ∃ t, u = Value.int i t
  | .str x, u => ∃ t, u = Value.str x t
  | .byt b, u => ∃ t, u = Value.bytes b t
  | .flt b, u => ∃ t, u = Value.float b t
  | .ref a, u => u = Value.ref a
  | .ty n, u => u = Value.type n
noncomputable abbrev Vals : List V → List Value → Prop := Paired RelV
theorem Vals.length {xs : List V} {us : List Value} (r : Vals xs us) : xs.length = us.length := Paired.length r
theorem Vals.get : ∀ {xs : List V} {us : List Value} {i : Nat} {x : V}, Vals xs us → xs[i]? = some x → ∃ u, us[i]? = some u ∧ RelV x u
  | _, _, _, _, .nil, e => by simp at e
  | _, _, 0, _, .cons r _, e => by simp at e; subst e; exact ⟨_, rfl, r⟩
  | _, _, i + 1, x, .cons _ t, e => by
    obtain ⟨u, h1, h2⟩ := Vals.get (i := i) (x := x) t (by simpa using e)
    exact ⟨u, by simpa using h1, h2⟩
theorem Vals.set {x : V} {u : Value} (r : RelV x u) : ∀ {xs : List V} {us : List Value} (i : Nat), Vals xs us → Vals (xs.set i x) (us.set i u)
  | _, _, _, .nil => .nil
  | _, _, 0, .cons _ t => .cons r t
  | _, _, i + 1, .cons q t => .cons q (Vals.set r i t)
theorem Vals.append : ∀ {xs ys : List V} {us ws : List Value}, Vals xs us → Vals ys ws → Vals (xs ++ ys) (us ++ ws)
  | _, _, _, _, .nil, s => s
  | _, _, _, _, .cons r t, s => .cons r (Vals.append t s)
theorem Vals.take : ∀ {xs : List V} {us : List Value} (n : Nat), Vals xs us → Vals (xs.take n) (us.take n)
  | _, _, 0, _ => .nil
  | _, _, _ + 1, .nil => .nil
  | _, _, n + 1, .cons r t => .cons r (Vals.take n t)
theorem Vals.drop : ∀ {xs : List V} {us : List Value} (n : Nat), Vals xs us → Vals (xs.drop n) (us.drop n)
  | _, _, 0, r => r
  | _, _, _ + 1, .nil => .nil
  | _, _, n + 1, .cons _ t => Vals.drop n t
noncomputable def RelO : Option V → Option Value → Prop
  | some v, some u => RelV v u
  | none, none => True
  | _, _ => False
noncomputable def KV {κ : Type} : List (κ × V) → List (κ × Value) → Prop := Paired fun (p : κ × V) (q : κ × Value) => p.1 = q.1 ∧ RelV p.2 q.2
noncomputable def kV : Key → V
  | .inl i => .int i
  | .inr x => .str x
inductive HO where
  /-- a list -/
  | lst (xs : List V)
  /-- a tuple (never changes) -/
  | tup (xs : List V)
  /-- a dict whose keys are ints and texts; one whose keys are tuples of ints and texts (the empty one is both) -/
  | dK (kvs : List (Key × V)) | dT (kvs : List (List Key × V))
  /-- a set of ints: its members, its size -/
  | set (S : Int → Bool) (n : Nat)
  /-- an instance of the class at C, its dict at dx, its attributes -/
  | ins (C dx : Addr) (fs : List (Str × V))
  /-- the dict of the instance at x -/
  | own (x : Addr)
  /-- the dict of an exception -/
  | xd (fs : List (Str × V))
  /-- a bound method, f of x -/
  | met (f x : Addr)
  /-- a range object lo, lo + 1, .. below hi -/
  | rng (lo hi : Int)
  /-- a thing that is known to the object (the script; a dict while a loop walks it): read, never written while it is so -/
  | frz (o : Obj) (u : HO)
  /-- a code object's table -/
  | tbl (ps : Array Value)
  /-- any other thing, by what is true of its one object (a def of one's own: SetO a S n := HO.ext fun h => ..) -/
  | ext (φ : Heap → Prop)
noncomputable abbrev Hp := Addr → Option HO
noncomputable def upd (H : Hp) (a : Addr) (o : HO) : Hp := fun b => if b = a then some o else H b
theorem upd_same {H : Hp} {a : Addr} {o : HO} : upd H a o a = some o := by unfold upd; rw [if_pos rfl]
theorem upd_ne {H : Hp} {a b : Addr} {o : HO} (h : b ≠ a) : upd H a o b = H b := by unfold upd; rw [if_neg h]
theorem ne_of {H : Hp} {a b : Addr} {o u : HO} (h : H a = some o) (h' : H b = some u) (d : o ≠ u) : a ≠ b := by
  intro e; subst e; rw [h] at h'; exact d (Option.some.inj h')
theorem ne_of_none {H : Hp} {a b : Addr} {o : HO} (h : H a = some o) (h' : H b = none) : a ≠ b := by
  intro e; subst e; rw [h] at h'; cases h'
section
variable (P : Program) (w : World)
noncomputable def ObjOk (H : Hp) (h : Heap) (a : Addr) : HO → Prop
  | .lst xs => xs.length ≤ sizeLine ∧ ∃ (its : List Value) (n : Nat), Vals xs its ∧ h.get? a = some { cls := .type "list", data := .seq its.toArray n }
  | .tup xs => xs.length ≤ sizeLine ∧ ∃ its : List Value, Vals xs its ∧ IsTup h a its.toArray
  | .dK kvs => kvs.length ≤ sizeLine ∧ (a == sysModules) = false ∧ ∃ vs, KV kvs vs ∧ h.DictOf (mixKind P w) a vs
  | .dT kvs => kvs.length ≤ sizeLine ∧ (a == sysModules) = false ∧ ∃ xs : List (List Key × Addr × Value),
      Paired (fun (p : List Key × V) (q : List Key × Addr × Value) => p.1 = q.1 ∧ H q.2.1 = some (.tup (p.1.map kV)) ∧ RelV p.2 q.2.2) kvs xs ∧
      ∃ o es ep, h.get? a = some o ∧ o.ExactDict ∧ o.data = .dict es ep ∧ es.toList = xs.map (entryOfKey (tupleKind (mixKind P w))) ∧ (xs.map (·.1)).Nodup
  | .set S n => h.SetOf (intKind P w) a S n
  | .ins C dx fs => H dx = some (.own a) ∧ fs.length ≤ 1000 ∧ dx ≠ a ∧ h.get? a = some (PySem.W.instObj C dx) ∧
      ∃ mA, h.Ns1 dx mA ∧ (∀ f, RelO (fs.lookup f) (mA f)) ∧ PySem.Within mA (fs.map (·.1))
  | .own _ => ∃ o, h.get? a = some o
  | .xd fs => ∃ mA, h.Ns1 a mA ∧ ∀ f, RelO (fs.lookup f) (mA f)
  | .rng lo hi => ∃ t u v, h.get? a = some { cls := .type "range", data := .fields #[.int lo t, .int hi u, .int 1 v] }
  | .frz o u => h.get? a = some o ∧ ObjOk H h a u
  | .tbl ps => h.get? a = some { cls := .none, data := .fields ps }
  | .met f x => h.get? a = some (PySem.W.methodObj (.ref f) (.ref x))
  | .ext φ => φ h ∧ (∃ o, h.get? a = some o) ∧ ∀ h1 h2 : Heap, φ h1 → (∀ o, h1.get? a = some o → h2.get? a = some o) → φ h2
noncomputable def HOk (H : Hp) (h : Heap) : Prop := ∀ a o, H a = some o → ObjOk P w H h a o
end
section
variable {P : Program} {w : World} {H H' : Hp} {h h' : Heap} {a : Addr} {o : HO}
theorem ObjOk.lt (x : ObjOk P w H h a o) : a < h.objs.size := by
  cases o with
  | lst xs => obtain ⟨_, _, _, _, e⟩ := x; exact Heap.lt_size e
  | tup xs => obtain ⟨_, _, _, p⟩ := x; exact p.lt
  | dK kvs => obtain ⟨_, _, _, _, o, _, _, e, _⟩ := x; exact Heap.lt_size e
  | dT kvs => obtain ⟨_, _, _, _, o, _, _, e, _⟩ := x; exact Heap.lt_size e
  | set S n => obtain ⟨o, _, _, _, e, _⟩ := x; exact Heap.lt_size e
  | ins C dx fs => obtain ⟨_, _, _, e, _⟩ := x; exact Heap.lt_size e
  | own y => obtain ⟨_, e⟩ := x; exact Heap.lt_size e
  | xd fs => obtain ⟨_, ⟨_, _, _, e, _⟩, _⟩ := x; exact Heap.lt_size e
  | rng lo hi => obtain ⟨_, _, _, e⟩ := x; exact Heap.lt_size e
  | frz ob u => obtain ⟨e, _⟩ := x; exact Heap.lt_size e
  | tbl ps => exact Heap.lt_size (show h.get? a = some _ from x)
  | met f y => exact Heap.lt_size (show h.get? a = some _ from x)
  | ext φ => obtain ⟨_, ⟨_, e⟩, _⟩ := x; exact Heap.lt_size e
theorem Paired.mapP {α β : Type} {F G : α → β → Prop} : ∀ {l₁ : List α} {l₂ : List β}, Paired F l₁ l₂ → (∀ a b, F a b → G a b) → Paired G l₁ l₂
  := fun h f => by
  induction h with
  | nil => exact .nil
  | cons r _ ih => exact .cons (f _ _ r) ih
theorem ObjOk.stay (x : ObjOk P w H h a o) (k : ∀ b u, (b = a ∨ H b = some (.own a)) → h.get? b = some u → h'.get? b = some u)
    (ho : ∀ b, H b = some (.own a) → H' b = some (.own a)) (ht : ∀ b xs, H b = some (.tup xs) → H' b = some (.tup xs)) : ObjOk P w H' h' a o := by
  induction o with
  | lst xs => obtain ⟨z, its, n, r, e⟩ := x; exact ⟨z, its, n, r, k _ _ (.inl rfl) e⟩
  | tup xs => obtain ⟨z, its, r, ob, e, c⟩ := x; exact ⟨z, its, r, ob, k _ _ (.inl rfl) e, c⟩
  | dK kvs => obtain ⟨z, y, vs, r, ob, es, ep, e, c⟩ := x; exact ⟨z, y, vs, r, ob, es, ep, k _ _ (.inl rfl) e, c⟩
  | dT kvs =>
    obtain ⟨z, y, xs, r, ob, es, ep, e, c⟩ := x
    exact ⟨z, y, xs, Paired.mapP r fun p q z => ⟨z.1, ht _ _ z.2.1, z.2.2⟩, ob, es, ep, k _ _ (.inl rfl) e, c⟩
  | set S n => obtain ⟨ob, es, ep, t, e, c⟩ := x; exact ⟨ob, es, ep, t, k _ _ (.inl rfl) e, c⟩
  | ins C dx fs =>
    obtain ⟨d, z, ne, e, mA, ⟨od, es, ep, e2, c⟩, r⟩ := x
    exact ⟨ho _ d, z, ne, k _ _ (.inl rfl) e, mA, ⟨od, es, ep, k _ _ (.inr d) e2, c⟩, r⟩
  | own y => obtain ⟨ob, e⟩ := x; exact ⟨ob, k _ _ (.inl rfl) e⟩
  | xd fs => obtain ⟨mA, ⟨od, es, ep, e, c⟩, r⟩ := x; exact ⟨mA, ⟨od, es, ep, k _ _ (.inl rfl) e, c⟩, r⟩
  | rng lo hi => obtain ⟨t, u, v, e⟩ := x; exact ⟨t, u, v, k _ _ (.inl rfl) e⟩
  | frz ob u ih => obtain ⟨e, q⟩ := x; exact ⟨k _ _ (.inl rfl) e, ih q⟩
  | tbl ps =>
    have e : h.get? a = some { cls := .none, data := .fields ps } := x
    show h'.get? a = some { cls := .none, data := .fields ps }
    exact k a _ (.inl rfl) e
  | met f y =>
    have e : h.get? a = some (PySem.W.methodObj (.ref f) (.ref y)) := x
    show h'.get? a = some (PySem.W.methodObj (.ref f) (.ref y))
    exact k a _ (.inl rfl) e
  | ext φ => obtain ⟨p, ⟨o, e⟩, st⟩ := x; exact ⟨st _ _ p fun o q => k _ _ (.inl rfl) q, ⟨o, k _ _ (.inl rfl) e⟩, st⟩
theorem HOk.lt (x : HOk P w H h) (e : H a = some o) : a < h.objs.size := (x a o e).lt
theorem HOk.fresh (x : HOk P w H h) (e : h.objs.size ≤ a) : H a = none := by
  cases q : H a with
  | none => rfl
  | some u => exact absurd (Nat.lt_of_lt_of_le (x.lt q) e) (Nat.lt_irrefl _)
theorem HOk.kept (x : HOk P w H h) (k : ∀ b u, h.get? b = some u → h'.get? b = some u) : HOk P w H h' := fun a o e =>
  (x a o e).stay (fun b u _ q => k b u q) (fun _ q => q) fun _ _ q => q
theorem HOk.laid (x : HOk P w H h) (k : ∀ b u, h.get? b = some u → h'.get? b = some u) (hp : h.objs.size ≤ a) (new : ObjOk P w (upd H a o) h' a o) : HOk P w (upd H a o) h' := fun b u e => by
  have hn := x.fresh hp
  by_cases hb : b = a
  · subst hb; rw [upd_same] at e; cases e; exact new
  · rw [upd_ne hb] at e
    exact (x b u e).stay (fun c v _ q => k c v q) (fun c q => by rw [upd_ne (ne_of_none q hn)]; exact q) fun c xs q => by rw [upd_ne (ne_of_none q hn)]; exact q
end
noncomputable def Rd (H : Hp) (a : Addr) (u : HO) : Prop := H a = some u ∨ ∃ o, H a = some (.frz o u)
theorem Rd.ok {P : Program} {w : World} {H : Hp} {h : Heap} {a : Addr} {u : HO} (r : Rd H a u) (x : HOk P w H h) : ObjOk P w H h a u := by
  rcases r with r | ⟨o, r⟩
  · exact x a u r
  · obtain ⟨_, q⟩ := x a _ r
    exact q
noncomputable def Mut : Option HO → Prop
  | some (.lst _) => True
  | some (.dK _) => True
  | some (.dT _) => True
  | some (.set _ _) => True
  | some (.ins _ _ _) => True
  | some (.ext _) => True
  | _ => False
section
variable {P : Program} {w : World} {H : Hp} {h h' : Heap} {x e : Addr} {o' : HO}
theorem HOk.write (ok : HOk P w H h) (mu : Mut (H x)) (he : e = x ∨ H e = some (.own x)) (k : ∀ b u, b ≠ e → h.get? b = some u → h'.get? b = some u) (heo : ∃ u, h'.get? e = some u)
    (new : ObjOk P w (upd H x o') h' x o') : HOk P w (upd H x o') h' := fun b u q => by
  have nown : ∀ c y, H c = some (.own y) → c ≠ x := fun c y r z => by subst z; rw [r] at mu; exact mu
  have ntup : ∀ c xs, H c = some (.tup xs) → c ≠ x := fun c xs r z => by subst z; rw [r] at mu; exact mu
  by_cases hb : b = x
  · subst hb; rw [upd_same] at q; cases q; exact new
  · rw [upd_ne hb] at q
    by_cases hbe : b = e
    · have q' : H b = some (.own x) := by
        rcases he with z | z
        · exact absurd (hbe.trans z) hb
        · rw [hbe]; exact z
      rw [q] at q'; cases q'
      obtain ⟨v, hv⟩ := heo
      exact ⟨v, by rw [hbe]; exact hv⟩
    · refine (ok b u q).stay (fun c v hc r => k c v ?_ r) (fun c r => by rw [upd_ne (nown c b r)]; exact r) fun c xs r => by rw [upd_ne (ntup c xs r)]; exact r
      rcases hc with rfl | hc
      · exact hbe
      · rintro rfl
        rcases he with z | z
        · exact nown c b hc z
        · rw [hc] at z; cases z; exact hb rfl
end
structure Un (fs ex : List Addr) (H H' : Hp) (h h' : Heap) : Prop where
  keep : ∀ b o, h.get? b = some o → H b = none → b ∉ fs → b ∉ ex → h'.get? b = some o
  slot : ∀ b o, h.get? b = some o → H b = none → b ∈ fs → b ∉ ex → ∃ sl, h'.get? b = some { o with slots := sl }
  free : ∀ b o, h.get? b = some o → H b = none → b ∉ ex → H' b = none
  there : ∀ b o, h.get? b = some o → b ∉ ex → ∃ o', h'.get? b = some o'
  tups : ∀ b xs, H b = some (.tup xs) → H' b = some (.tup xs)
  frzs : ∀ b o u, H b = some (.frz o u) → H' b = some (.frz o u)
  tbls : ∀ b ps, H b = some (.tbl ps) → ∃ more, H' b = some (.tbl (ps ++ more))
section
variable {fs fs' ex ex' : List Addr} {H H1 H2 : Hp} {h h1 h2 h' : Heap} {a x e : Addr} {o : HO}
theorem Un.any (u : Un fs ex H H1 h h1) {b : Addr} {ob : Obj} (q : h.get? b = some ob) (n : H b = none) (hx : b ∉ ex) : ∃ sl, h1.get? b = some { ob with slots := sl } := by
  by_cases hb : b ∈ fs
  · exact u.slot b ob q n hb hx
  · exact ⟨ob.slots, u.keep b ob q n hb hx⟩
theorem Un.trans (a : Un fs ex H H1 h h1) (b : Un fs ex H1 H2 h1 h2) : Un fs ex H H2 h h2 where
  keep := fun c ob q n hc hx => b.keep c ob (a.keep c ob q n hc hx) (a.free c ob q n hx) hc hx
  slot := fun c ob q n hc hx => by
    obtain ⟨sl, e1⟩ := a.slot c ob q n hc hx
    obtain ⟨sl', e2⟩ := b.slot c _ e1 (a.free c ob q n hx) hc hx
    exact ⟨sl', e2⟩
  free := fun c ob q n hx => by
    obtain ⟨o', e1⟩ := a.there c ob q hx
    exact b.free c o' e1 (a.free c ob q n hx) hx
  there := fun c ob q hx => by
    obtain ⟨o', e1⟩ := a.there c ob q hx
    exact b.there c o' e1 hx
  tups := fun c xs q => b.tups c xs (a.tups c xs q)
  frzs := fun c ob xs q => b.frzs c ob xs (a.frzs c ob xs q)
  tbls := fun c ps q => by
    obtain ⟨m1, e1⟩ := a.tbls c ps q
    obtain ⟨m2, e2⟩ := b.tbls c _ e1
    exact ⟨m1 ++ m2, by rw [e2, Array.append_assoc]⟩
theorem Un.kept (k : ∀ b u, h.get? b = some u → h'.get? b = some u) : Un fs ex H H h h' :=
  ⟨fun b ob q _ _ _ => k b ob q, fun b ob q _ _ _ => ⟨ob.slots, k b ob q⟩, fun _ _ _ n _ => n, fun b ob q _ => ⟨ob, k b ob q⟩, fun _ _ q => q, fun _ _ _ q => q, fun _ ps q => ⟨#[], by rw [q]; simp⟩⟩
theorem Un.refl : Un fs ex H H h h := Un.kept fun _ _ q => q
theorem Un.laid (k : ∀ b u, h.get? b = some u → h'.get? b = some u) (hp : h.objs.size ≤ a) (hn : H a = none) : Un fs ex H (upd H a o) h h' where
  keep := fun b u q _ _ _ => k b u q
  slot := fun b u q _ _ _ => ⟨u.slots, k b u q⟩
  free := fun b u q n _ => by rw [upd_ne (Nat.ne_of_lt (Nat.lt_of_lt_of_le (Heap.lt_size q) hp))]; exact n
  there := fun b u q _ => ⟨u, k b u q⟩
  tups := fun b xs q => by rw [upd_ne (ne_of_none q hn)]; exact q
  frzs := fun b u xs q => by rw [upd_ne (ne_of_none q hn)]; exact q
  tbls := fun b ps q => ⟨#[], by rw [upd_ne (ne_of_none q hn), q]; simp⟩
theorem Un.write (mu : Mut (H x)) (he : e = x ∨ H e = some (.own x)) (k : ∀ b u, b ≠ e → h.get? b = some u → h'.get? b = some u) (heo : ∃ u, h'.get? e = some u) : Un fs ex H (upd H x o) h h' := by
  have hx : ∀ b, H b = none → b ≠ x := fun b n z => by subst z; rw [n] at mu; exact mu
  have hb : ∀ b, H b = none → b ≠ e := fun b n z => by
    subst z
    rcases he with r | r
    · exact hx b n r
    · rw [n] at r; cases r
  have hm : ∀ b u, H b = some u → ¬ Mut (some u) → b ≠ x := fun b u q nm z => by subst z; rw [q] at mu; exact nm mu
  refine ⟨fun b u q n _ _ => k b u (hb b n) q, fun b u q n _ _ => ⟨u.slots, k b u (hb b n) q⟩, fun b u q n _ => by rw [upd_ne (hx b n)]; exact n, fun b u q _ => ?_,
    fun b xs q => by rw [upd_ne (hm b _ q fun z => z)]; exact q, fun b u xs q => by rw [upd_ne (hm b _ q fun z => z)]; exact q, fun b ps q => ⟨#[], by rw [upd_ne (hm b _ q fun z => z), q]; simp⟩⟩
  by_cases hbe : b = e
  · subst hbe; exact heo
  · exact ⟨u, k b u hbe q⟩
theorem Un.mono (u : Un fs ex H H1 h h1) (hs : ∀ b ∈ fs, b ∈ fs') (hx : ∀ b ∈ ex, b ∈ ex') : Un fs' ex' H H1 h h1 :=
  ⟨fun b ob q n hb he => u.keep b ob q n (fun z => hb (hs b z)) fun z => he (hx b z), fun _ _ q n _ he => u.any q n fun z => he (hx _ z), fun b ob q n he => u.free b ob q n fun z => he (hx b z), fun b ob q he => u.there b ob q fun z => he (hx b z), u.tups, u.frzs, u.tbls⟩
end
noncomputable def trk (h : Heap) (H : Hp) : List Addr := (List.range h.objs.size).filter fun a => (H a).isSome
noncomputable def hidT (h : Heap) (H : Hp) : Heap := PySem.W.hideAll h (trk h H)
theorem hidT_size (h : Heap) (H : Hp) : (hidT h H).objs.size = h.objs.size := PySem.W.hideAll_size _ _
theorem hidT_get {h : Heap} {H : Hp} {b : Addr} {o : Obj} (e : h.get? b = some o) (n : H b = none) : (hidT h H).get? b = some o :=
  PySem.W.hideAll_get _ e fun hm => by
    have q : (H b).isSome = true := (List.mem_filter.mp hm).2
    rw [n] at q; simp at q
theorem of_hidT {h : Heap} {H : Hp} {b : Addr} {o : Obj} (e : (hidT h H).get? b = some o) : h.get? b = some o ∧ H b = none := by
  have e' : h.get? b = some o := PySem.W.of_hideAll (trk h H) e
  refine ⟨e', ?_⟩
  cases q : H b with
  | none => rfl
  | some x =>
    have hm : b ∈ trk h H := List.mem_filter.mpr ⟨List.mem_range.mpr (Heap.lt_size e'), by simp [q]⟩
    have z : (hidT h H).get? b = none := PySem.W.hideAll_none (trk h H) hm
    rw [z] at e; cases e
noncomputable def allNews (g h : Heap) (L : Addr) : List (Addr × Obj) := (List.range h.objs.size).filterMap fun a => if a = L ∨ (g.get? a).isSome = true then none else (h.get? a).map fun o => (a, o)
noncomputable def rest (g h : Heap) (L d : Addr) : List (Addr × Obj) := (allNews g h L).filter fun p => decide (p.1 ≠ d)
end L2
namespace L2
open PySem PySem.Spec PyProof.Rows
structure Mod (K : PySem.W.Frag) (mg : Str → Option Value) (base : Heap) : Prop where
  kin : K.In base
  glob : base.Ns mainGlobals mg
  blt : ∃ mb, base.Ns builtinsNs mb ∧ ∀ x : Str, x ≠ "__name__" → mb x = bootBuiltins x
  nolimit : base.NoLimit
structure Cx where
  prog : Program
  w : World
  K : PySem.W.Frag
  mg : Str → Option Value
  base : Heap
  A : Around
  N : List Str
  s₀ : Shared
  H₀ : Hp
  env : Env
  outer : List Env
  stack : List Env
  ex : List Addr
  fn : Str → Bool
  calm : Bool
  pn : List (Addr × Obj)
  xe : Value → Shared → Prop
noncomputable def frs (l : List Env) : List Addr := l.filterMap (·.frame)
noncomputable abbrev Cx.fs (X : Cx) : List Addr := frs X.outer
noncomputable def Vis (sc : Scope) (x : Str) : Prop := sc.names.lookup x = some .local ∨ sc.names.lookup x = some .cell ∨ sc.names.lookup x = some .free
noncomputable def Loc (sc : Scope) (x : Str) : Prop := sc.names.lookup x = some .local ∨ sc.names.lookup x = some .cell
noncomputable def Look (env : Env) (h : Heap) (m : Str → Option Value) (x : Str) (u : Value) : Prop :=
  (env.kindOf x = some .local ∧ m x = some u) ∨ ((env.kindOf x = some .cell ∨ env.kindOf x = some .free) ∧ ∃ c, env.cells.lookup x = some c ∧ h.IsCell c (some u))
structure Cx.Ok (X : Cx) : Prop where
  mod : Mod X.K X.mg X.base
  kind : X.env.scope.kind = .function
  glob : X.env.globals = mainGlobals
  blt : X.env.builtins = builtinsNs
  above : X.s₀.heap.objs.size ≤ X.env.locals
  inj : ∀ x y c, X.env.cells.lookup x = some c → X.env.cells.lookup y = some c → x = y
  has : ∀ x, (X.env.kindOf x = some .cell ∨ X.env.kindOf x = some .free) → ∃ c, X.env.cells.lookup x = some c
  cab : ∀ x c, X.fn x = true → X.env.cells.lookup x = some c → X.s₀.heap.objs.size ≤ c
  hd : X.calm = true → X.A.handled = none
  frames : X.A.frames = some X.stack
  stk : X.stack = X.outer ∨ (X.stack = X.env :: X.outer ∧ X.env.frame = some X.env.locals)
  exf : ∀ b ∈ X.ex, b ≠ X.env.locals ∧ ∀ x c, X.env.cells.lookup x = some c → c ≠ b
  bs : ∀ b o, X.base.get? b = some o → X.s₀.heap.get? b = some o ∧ X.H₀ b = none
  bsz : X.base.objs.size ≤ X.s₀.heap.objs.size
  noex : ∀ b o, X.base.get? b = some o → b ∉ X.ex
  exfs : ∀ b ∈ X.ex, b ∉ X.fs
  funs : X.s₀.heap.FunFrames X.base X.outer
  frf : ∀ b ∈ X.fs, X.H₀ b = none
structure Inv (X : Cx) (pins : List (Addr × Obj)) (σ : List (Option V)) (H : Hp) (s : Shared) : Prop where
  ok : X.Ok
  os : s.os = X.s₀.os
  bare : AllBare s.gens
  base : Un X.fs X.ex X.H₀ H X.s₀.heap s.heap
  loc : ∃ m, s.heap.Ns X.env.locals m ∧ ∀ (i : Nat) (x : Str) (v : V), X.N[i]? = some x → σ[i]? = some (some v) → Vis X.env.scope x → ∃ u, RelV v u ∧ Look X.env s.heap m x u
  cell : ∀ x c, X.env.cells.lookup x = some c → ∃ v, s.heap.IsCell c v
  free : H X.env.locals = none
  freeC : ∀ x c, X.env.cells.lookup x = some c → H c = none
  pin : ∀ p ∈ X.pn ++ pins, s.heap.get? p.1 = some p.2 ∧ H p.1 = none ∧ p.1 ≠ X.env.locals ∧ p.1 ∉ X.fs ∧ ∀ v, p.2.data ≠ .cell v
  hok : HOk X.prog X.w H s.heap
  len : σ.length = X.N.length
section
variable {X : Cx} {pins : List (Addr × Obj)} {σ : List (Option V)} {H H' : Hp} {s : Shared} {h' : Heap}
theorem Cx.Ok.nofr (ok : X.Ok) {b : Addr} {o : Obj} (e : X.base.get? b = some o) : b ∉ X.fs := fun hb => by
  have := (ok.funs.mem hb).1
  rw [e] at this; cases this
theorem Inv.bs (I : Inv X pins σ H s) : ∀ b o, X.base.get? b = some o → s.heap.get? b = some o ∧ H b = none := fun b o e =>
  ⟨I.base.keep b o (I.ok.bs b o e).1 (I.ok.bs b o e).2 (I.ok.nofr e) (I.ok.noex b o e), I.base.free b o (I.ok.bs b o e).1 (I.ok.bs b o e).2 (I.ok.noex b o e)⟩
theorem Inv.bk (I : Inv X pins σ H s) : ∀ b o, X.base.get? b = some o → s.heap.get? b = some o := fun b o e => (I.bs b o e).1
theorem Inv.mod (I : Inv X pins σ H s) : Mod X.K X.mg X.base := I.ok.mod
theorem Inv.kIn (I : Inv X pins σ H s) : X.K.In s.heap := I.ok.mod.kin.keeps I.bk
theorem Inv.lt (I : Inv X pins σ H s) : X.env.locals < s.heap.objs.size := let ⟨_, hn, _⟩ := I.loc; hn.lt
theorem Inv.sz (I : Inv X pins σ H s) : X.s₀.heap.objs.size ≤ s.heap.objs.size := Nat.le_trans I.ok.above (Nat.le_of_lt I.lt)
theorem Inv.nofs (I : Inv X pins σ H s) {a : Addr} (h : s.heap.objs.size ≤ a) : a ∉ X.fs := fun hb => by
  obtain ⟨_, o, ho, _⟩ := I.ok.funs.mem hb
  exact absurd (Nat.lt_of_lt_of_le (Heap.lt_size ho) (Nat.le_trans I.sz h)) (Nat.lt_irrefl _)
theorem Inv.cne (I : Inv X pins σ H s) : ∀ x c, X.env.cells.lookup x = some c → c ≠ X.env.locals := fun x c e z => by
  obtain ⟨v, o, ho, hd⟩ := I.cell x c e
  obtain ⟨m, ⟨o', es, ep, ho', hd', _⟩, _⟩ := I.loc
  rw [z, ho'] at ho; cases ho; rw [hd'] at hd; cases hd
theorem Inv.funs (I : Inv X pins σ H s) : s.heap.FunFrames X.base X.outer := by
  have all : ∀ (l : List Env), (∀ b ∈ frs l, b ∈ X.fs) → X.s₀.heap.FunFrames X.base l → s.heap.FunFrames X.base l := by
    intro l
    induction l with
    | nil => intro _ _; trivial
    | cons env r ih =>
      intro hs hl
      obtain ⟨hk, ⟨L, o, hf, hn, ho, hd⟩, hr⟩ := hl
      have hL : L ∈ X.fs := hs L (by unfold frs; rw [List.filterMap_cons, hf]; exact List.mem_cons_self)
      obtain ⟨sl, e⟩ := I.base.slot L o ho (I.ok.frf L hL) hL fun z => I.ok.exfs L z hL
      exact ⟨hk, ⟨L, _, hf, hn, e, hd⟩, ih (fun b hb => hs b (by unfold frs; rw [List.filterMap_cons, hf]; exact List.mem_cons_of_mem _ hb)) hr⟩
  exact all X.outer (fun _ hb => hb) I.ok.funs
theorem Inv.stack (I : Inv X pins σ H s) : s.heap.FunFrames X.base X.stack := by
  rcases I.ok.stk with e | ⟨e, hf⟩
  · rw [e]; exact I.funs
  · rw [e]
    obtain ⟨m, hn, _⟩ := I.loc
    refine .cons (by rw [I.ok.kind]; decide) hf hn ?_ I.funs
    exact Heap.get?_none_of_le (Nat.le_trans I.ok.bsz I.ok.above)
theorem Inv.stkSub (I : Inv X pins σ H s) : ∀ b ∈ frs X.stack, b ∈ X.env.locals :: X.fs := fun b hb => by
  rcases I.ok.stk with e | ⟨e, hf⟩
  · rw [e] at hb; exact List.mem_cons_of_mem _ hb
  · rw [e] at hb
    unfold frs at hb
    rw [List.filterMap_cons, hf] at hb
    exact hb
theorem Inv.stkFree (I : Inv X pins σ H s) : ∀ b ∈ frs X.stack, H b = none := fun b hb => by
  rcases List.mem_cons.mp (I.stkSub b hb) with e | hb
  · rw [e]; exact I.free
  · obtain ⟨_, o, ho, _⟩ := I.ok.funs.mem hb
    exact I.base.free b o ho (I.ok.frf b hb) fun z => I.ok.exfs b z hb
theorem Inv.step {g' : Array GenState} {t' : Nat} {d' : Drawn} {ch : List Addr} (I : Inv X pins σ H s)
    (hch : ∀ b ∈ ch, (b ∈ X.ex ∨ X.s₀.heap.objs.size ≤ b) ∧ b ≠ X.env.locals ∧ (∀ x c, X.env.cells.lookup x = some c → c ≠ b) ∧ ∀ p ∈ X.pn ++ pins, p.1 ≠ b)
    (keep : ∀ b o, b ≠ X.env.locals → b ∉ X.fs → b ∉ ch → s.heap.get? b = some o → H b = none → h'.get? b = some o)
    (slot : ∀ b o, b ≠ X.env.locals → b ∈ X.fs → b ∉ ch → s.heap.get? b = some o → H b = none → ∃ sl, h'.get? b = some { o with slots := sl }) (free : ∀ b o, b ∉ ch → s.heap.get? b = some o → H b = none → H' b = none)
    (there : ∀ b o, b ∉ ch → s.heap.get? b = some o → ∃ o', h'.get? b = some o')
    (tups : ∀ b xs, H b = some (.tup xs) → H' b = some (.tup xs)) (frzs : ∀ b o u, H b = some (.frz o u) → H' b = some (.frz o u)) (tbls : ∀ b ps, H b = some (.tbl ps) → ∃ more, H' b = some (.tbl (ps ++ more)))
    (ns : ∀ m, s.heap.Ns X.env.locals m → h'.Ns X.env.locals m) (hok : HOk X.prog X.w H' h') (hg : AllBare g') :
    Inv X pins σ H' { s with heap := h', gens := g', drawn := d', toks := t' } := by
  have neL : ∀ b o, X.s₀.heap.get? b = some o → b ≠ X.env.locals := fun b o e => Nat.ne_of_lt (Nat.lt_of_lt_of_le (Heap.lt_size e) I.ok.above)
  have neC : ∀ b o, X.s₀.heap.get? b = some o → b ∉ X.ex → b ∉ ch := fun b o e hx hb => by
    rcases (hch b hb).1 with z | z
    · exact hx z
    · exact absurd (Nat.lt_of_lt_of_le (Heap.lt_size e) z) (Nat.lt_irrefl _)
  have cellK : ∀ x c, X.env.cells.lookup x = some c → ∀ v, s.heap.IsCell c v → h'.IsCell c v := fun x c e v ⟨o, ho, hd⟩ => by
    have nch : c ∉ ch := fun z => (hch c z).2.2.1 x c e rfl
    by_cases hc : c ∈ X.fs
    · obtain ⟨sl, q⟩ := slot c o (I.cne x c e) hc nch ho (I.freeC x c e)
      exact ⟨_, q, hd⟩
    · exact ⟨o, keep c o (I.cne x c e) hc nch ho (I.freeC x c e), hd⟩
  refine ⟨I.ok, I.os, hg, ⟨fun b o e n hb hx => ?_, fun b o e n hb hx => ?_, fun b o e n hx => ?_, fun b o e hx => ?_, fun b xs e => tups b xs (I.base.tups b xs e), fun b o xs e => frzs b o xs (I.base.frzs b o xs e), fun b ps e => ?_⟩, ?_, fun x c e => ?_, ?_, fun x c e => ?_, fun p hp => ?_, hok, I.len⟩
  · exact keep b o (neL b o e) hb (neC b o e hx) (I.base.keep b o e n hb hx) (I.base.free b o e n hx)
  · obtain ⟨sl, e1⟩ := I.base.slot b o e n hb hx
    obtain ⟨sl', e2⟩ := slot b _ (neL b o e) hb (neC b o e hx) e1 (I.base.free b o e n hx)
    exact ⟨sl', e2⟩
  · obtain ⟨o', e1⟩ := I.base.there b o e hx
    exact free b o' (neC b o e hx) e1 (I.base.free b o e n hx)
  · obtain ⟨o', e1⟩ := I.base.there b o e hx
    exact there b o' (neC b o e hx) e1
  · obtain ⟨m1, e1⟩ := I.base.tbls b ps e
    obtain ⟨m2, e2⟩ := tbls b _ e1
    exact ⟨m1 ++ m2, by rw [e2, Array.append_assoc]⟩
  · obtain ⟨m, hn, hl⟩ := I.loc
    refine ⟨m, ns m hn, fun i x v e1 e2 e3 => ?_⟩
    obtain ⟨u, r, l⟩ := hl i x v e1 e2 e3
    refine ⟨u, r, ?_⟩
    rcases l with l | ⟨k, c, e, z⟩
    · exact .inl l
    · exact .inr ⟨k, c, e, cellK x c e _ z⟩
  · obtain ⟨v, z⟩ := I.cell x c e
    exact ⟨v, cellK x c e v z⟩
  · obtain ⟨m, ⟨o, _, _, ho, _⟩, _⟩ := I.loc
    exact free _ o (fun z => (hch _ z).2.1 rfl) ho I.free
  · obtain ⟨v, o, ho, hd⟩ := I.cell x c e
    exact free c o (fun z => (hch c z).2.2.1 x c e rfl) ho (I.freeC x c e)
  · obtain ⟨e, n, ne, nf, d⟩ := I.pin p hp
    have nch : p.1 ∉ ch := fun z => (hch p.1 z).2.2.2 p hp rfl
    exact ⟨keep p.1 p.2 ne nf nch e n, free p.1 p.2 nch e n, ne, nf, d⟩
theorem Inv.un {t' : Nat} (I : Inv X pins σ H s) (u : Un X.fs [] H H' s.heap h') (hok : HOk X.prog X.w H' h') : Inv X pins σ H' { s with heap := h', toks := t' } := by
  obtain ⟨m, ⟨o, es, ep, ho, r⟩, _⟩ := id I.loc
  obtain ⟨sl, hL⟩ := u.any ho I.free (by simp)
  exact I.step (g' := s.gens) (d' := s.drawn) (ch := []) (fun _ z => nomatch z) (fun b o _ hb _ e n => u.keep b o e n hb (by simp)) (fun b o _ hb _ e n => u.slot b o e n hb (by simp)) (fun b o _ e n => u.free b o e n (by simp)) (fun b o _ e => u.there b o e (by simp)) u.tups u.frzs u.tbls (fun m' hm => by
    obtain ⟨o', es', ep', ho', r'⟩ := hm
    rw [ho] at ho'; cases ho'
    exact ⟨_, es', ep', hL, r'⟩) hok I.bare
theorem Inv.call {g' : Array GenState} {t' : Nat} {d' : Drawn} {ch : List Addr} (I : Inv X pins σ H s) (u : Un (frs X.stack) ch H H' s.heap h') (hok : HOk X.prog X.w H' h') (hg : AllBare g')
    (hch : ∀ b ∈ ch, (b ∈ X.ex ∨ X.s₀.heap.objs.size ≤ b) ∧ b ≠ X.env.locals ∧ (∀ x c, X.env.cells.lookup x = some c → c ≠ b) ∧ ∀ p ∈ X.pn ++ pins, p.1 ≠ b) :
    Inv X pins σ H' { s with heap := h', gens := g', drawn := d', toks := t' } := by
  obtain ⟨m, ⟨o, es, ep, ho, r⟩, _⟩ := id I.loc
  obtain ⟨sl, hL⟩ := u.any ho I.free fun z => (hch _ z).2.1 rfl
  exact I.step (ch := ch) hch (fun b o hL hb hc e n => u.keep b o e n (fun z => (List.mem_cons.mp (I.stkSub b z)).elim hL hb) hc) (fun b o _ _ hc e n => u.any e n hc) (fun b o hc e n => u.free b o e n hc) (fun b o hc e => u.there b o e hc) u.tups u.frzs u.tbls (fun m' hm => by
    obtain ⟨o', es', ep', ho', r'⟩ := hm
    rw [ho] at ho'; cases ho'
    exact ⟨_, es', ep', hL, r'⟩) hok hg
theorem Inv.turned {t' : Nat} {it : Addr} (I : Inv X pins σ H s) (k : ∀ b o, b ≠ it → s.heap.get? b = some o → h'.get? b = some o) (hn : H it = none) (hL : it ≠ X.env.locals)
    (h1 : it ∈ X.ex ∨ X.s₀.heap.objs.size ≤ it) (h2 : ∀ x c, X.env.cells.lookup x = some c → c ≠ it) (h3 : ∀ p ∈ X.pn ++ pins, p.1 ≠ it) : Inv X pins σ H { s with heap := h', toks := t' } := by
  have nit : ∀ b u, H b = some u → b ≠ it := fun b u e z => by rw [z, hn] at e; cases e
  refine I.step (g' := s.gens) (d' := s.drawn) (ch := [it]) (fun b hb => ?_) (fun b o _ _ hc e _ => k b o (fun z => hc (by simp [z])) e) (fun b o _ _ hc e _ => ⟨o.slots, k b o (fun z => hc (by simp [z])) e⟩) (fun _ _ _ _ n => n)
    (fun b o hc e => ⟨o, k b o (fun z => hc (by simp [z])) e⟩) (fun _ _ e => e) (fun _ _ _ e => e) (fun b ps e => ⟨#[], by rw [e]; simp⟩) (fun m hm => ?_) (fun b u e => ?_) I.bare
  · have e : b = it := by simpa using hb
    subst e
    exact ⟨h1, hL, h2, h3⟩
  · obtain ⟨o, es, ep, ho, r⟩ := hm
    exact ⟨o, es, ep, k _ o (Ne.symm hL) ho, r⟩
  · refine (I.hok b u e).stay (fun c v hc q => k c v ?_ q) (fun _ q => q) fun _ _ q => q
    rcases hc with z | z
    · rw [z]; exact nit b u e
    · exact nit c _ z
theorem Inv.tok (I : Inv X pins σ H s) (t : Nat) : Inv X pins σ H { s with toks := t } := I.un (h' := s.heap) (t' := t) Un.refl I.hok
theorem Inv.kept {t' : Nat} (I : Inv X pins σ H s) (k : ∀ b u, s.heap.get? b = some u → h'.get? b = some u) : Inv X pins σ H { s with heap := h', toks := t' } := I.un (Un.kept k) (I.hok.kept k)
theorem Inv.laid {a : Addr} {o : HO} {t' : Nat} (I : Inv X pins σ H s) (k : ∀ b u, s.heap.get? b = some u → h'.get? b = some u) (hp : s.heap.objs.size ≤ a) (new : ObjOk X.prog X.w (upd H a o) h' a o) :
    Inv X pins σ (upd H a o) { s with heap := h', toks := t' } := I.un (Un.laid k hp (I.hok.fresh hp)) (I.hok.laid k hp new)
theorem Inv.write {x e : Addr} {o : HO} {t' : Nat} (I : Inv X pins σ H s) (mu : Mut (H x)) (he : e = x ∨ H e = some (.own x)) (k : ∀ b u, b ≠ e → s.heap.get? b = some u → h'.get? b = some u) (heo : ∃ u, h'.get? e = some u)
    (new : ObjOk X.prog X.w (upd H x o) h' x o) : Inv X pins σ (upd H x o) { s with heap := h', toks := t' } := I.un (Un.write mu he k heo) (I.hok.write mu he k heo new)
theorem Inv.pins_of {pins' : List (Addr × Obj)} (I : Inv X pins σ H s) (h : ∀ p ∈ pins', s.heap.get? p.1 = some p.2 ∧ H p.1 = none ∧ p.1 ≠ X.env.locals ∧ p.1 ∉ X.fs ∧ ∀ v, p.2.data ≠ .cell v) : Inv X pins' σ H s :=
  ⟨I.ok, I.os, I.bare, I.base, I.loc, I.cell, I.free, I.freeC, fun p hp => (List.mem_append.mp hp).elim (fun z => I.pin p (List.mem_append_left _ z)) (h p), I.hok, I.len⟩
theorem nodup_ix {N : List Str} (hN : N.Nodup) {i j : Nat} {x : Str} (a : N[i]? = some x) (b : N[j]? = some x) : i = j := by
  obtain ⟨h1, e1⟩ := List.getElem?_eq_some_iff.mp a
  obtain ⟨h2, e2⟩ := List.getElem?_eq_some_iff.mp b
  exact (List.getElem_inj hN).mp (e1.trans e2.symm)
theorem store_ok2 {M : Model} {A : Around} {E : Value → Shared → Prop} {i : Nat} {x : Str} {v : V} {u : Value} {Q : Unit → Shared → Prop} (I : Inv X pins σ H s) (hN : X.N.Nodup) (hi : X.N[i]? = some x) (hx : Loc X.env.scope x) (r : RelV v u)
    (h : ∀ s', Inv X pins (σ.set i (some v)) H s' → (∃ a, Heap.SameBut a s.heap s'.heap ∧ (a = X.env.locals ∨ X.env.cells.lookup x = some a)) → Q () s') (hf : X.fn x = true ∨ X.env.scope.names.lookup x = some .local := by first | exact .inl rfl | exact .inr rfl | assumption) : wpAny M A (storeName X.env x u) Q E s := by
  obtain ⟨m, hn, hl⟩ := id I.loc
  have hcls : (X.env.scope.kind == .class || (X.env.scope.kind == .module && X.env.locals != X.env.globals)) = false := by rw [I.ok.kind]; rfl
  have hiσ : i < σ.length := by rw [I.len]; exact (List.getElem?_eq_some_iff.mp hi).1
  have cne := I.cne
  have tracked : ∀ {a : Addr} {h' : Heap}, (∃ o, s.heap.get? a = some o ∧ H a = none) → Heap.SameBut a s.heap h' → HOk X.prog X.w H h' := fun {a h'} ha hs b ob e => by
    obtain ⟨_, _, hfree⟩ := ha
    refine (I.hok b ob e).stay (fun c w' hc q => (hs.2 c ?_).trans q) (fun _ q => q) fun _ _ q => q
    rintro rfl
    rcases hc with rfl | hc
    · rw [hfree] at e; cases e
    · rw [hfree] at hc; cases hc
  rcases hx with hk | hk
  · refine wpAny_storeName_local hk hn (fun h' hn' hs => ?_) hcls
    obtain ⟨oL, _, _, hoL, _⟩ := id hn
    refine h _ ⟨I.ok, I.os, I.bare, ⟨fun b o e n hb hx => ?_, fun b o e n hb hx => ?_, I.base.free, fun b o e hx => ?_, I.base.tups, I.base.frzs, I.base.tbls⟩, ⟨_, hn', fun j y v' e1 e2 e3 => ?_⟩, fun y c e => ?_, I.free, I.freeC, fun p hp => ?_, tracked ⟨oL, hoL, I.free⟩ hs, by simpa using I.len⟩ ⟨_, hs, .inl rfl⟩
    · exact (hs.2 b (Nat.ne_of_lt (Nat.lt_of_lt_of_le (Heap.lt_size e) I.ok.above))).trans (I.base.keep b o e n hb hx)
    · obtain ⟨sl, e1⟩ := I.base.slot b o e n hb hx
      exact ⟨sl, (hs.2 b (Nat.ne_of_lt (Nat.lt_of_lt_of_le (Heap.lt_size e) I.ok.above))).trans e1⟩
    · obtain ⟨o', e1⟩ := I.base.there b o e hx
      exact ⟨o', (hs.2 b (Nat.ne_of_lt (Nat.lt_of_lt_of_le (Heap.lt_size e) I.ok.above))).trans e1⟩
    · by_cases hj : j = i
      · subst hj
        rw [hi] at e1; cases e1
        rw [List.getElem?_set_self hiσ] at e2
        cases e2
        exact ⟨u, r, .inl ⟨hk, by simp⟩⟩
      · rw [List.getElem?_set_ne (Ne.symm hj)] at e2
        obtain ⟨u', r', q⟩ := hl j y v' e1 e2 e3
        refine ⟨u', r', ?_⟩
        rcases q with ⟨k, e⟩ | ⟨k, c, e, z⟩
        · refine .inl ⟨k, ?_⟩
          have : y ≠ x := fun e => hj (nodup_ix hN e1 (e ▸ hi))
          simp [this, e]
        · exact .inr ⟨k, c, e, z.sameBut hs (cne y c e)⟩
    · obtain ⟨w', z⟩ := I.cell y c e
      exact ⟨w', z.sameBut hs (cne y c e)⟩
    · obtain ⟨e, n, ne, nf, d⟩ := I.pin p hp
      exact ⟨(hs.2 p.1 ne).trans e, n, ne, nf, d⟩
  · have hfn : X.fn x = true := by
      rcases hf with z | z
      · exact z
      · rw [z] at hk; cases hk
    obtain ⟨c, hc⟩ := I.ok.has x (.inl hk)
    obtain ⟨w', z⟩ := I.cell x c hc
    refine wpAny_storeName_cell I.ok.kind hk hc z (fun h' hc' hs => ?_)
    obtain ⟨oc, hoc, hocd⟩ := id z
    refine h { s with heap := h' } ⟨I.ok, I.os, I.bare, ⟨fun b o e n hb hx => ?_, fun b o e n hb hx => ?_, I.base.free, fun b o e hx => ?_, I.base.tups, I.base.frzs, I.base.tbls⟩, ⟨m, hn.sameBut hs (Ne.symm (cne x c hc)), fun j y v' e1 e2 e3 => ?_⟩, fun y c' e => ?_, I.free, I.freeC, fun p hp => ?_, tracked ⟨oc, hoc, I.freeC x c hc⟩ hs, by simpa using I.len⟩ ⟨c, hs, .inr hc⟩
    · exact (hs.2 b (Nat.ne_of_lt (Nat.lt_of_lt_of_le (Heap.lt_size e) (I.ok.cab x c hfn hc)))).trans (I.base.keep b o e n hb hx)
    · obtain ⟨sl, e1⟩ := I.base.slot b o e n hb hx
      exact ⟨sl, (hs.2 b (Nat.ne_of_lt (Nat.lt_of_lt_of_le (Heap.lt_size e) (I.ok.cab x c hfn hc)))).trans e1⟩
    · obtain ⟨o', e1⟩ := I.base.there b o e hx
      exact ⟨o', (hs.2 b (Nat.ne_of_lt (Nat.lt_of_lt_of_le (Heap.lt_size e) (I.ok.cab x c hfn hc)))).trans e1⟩
    · by_cases hj : j = i
      · subst hj
        rw [hi] at e1; cases e1
        rw [List.getElem?_set_self hiσ] at e2
        cases e2
        exact ⟨u, r, .inr ⟨.inl hk, c, hc, hc'⟩⟩
      · rw [List.getElem?_set_ne (Ne.symm hj)] at e2
        obtain ⟨u', r', q⟩ := hl j y v' e1 e2 e3
        refine ⟨u', r', ?_⟩
        rcases q with q | ⟨k, c', e, z'⟩
        · exact .inl q
        · refine .inr ⟨k, c', e, z'.sameBut hs ?_⟩
          rintro rfl
          exact hj (nodup_ix hN e1 (I.ok.inj _ _ _ e hc ▸ hi))
    · by_cases hcc : c' = c
      · subst hcc; exact ⟨_, hc'⟩
      · obtain ⟨w2, z2⟩ := I.cell y c' e
        exact ⟨w2, z2.sameBut hs hcc⟩
    · obtain ⟨e, n, ne, nf, d⟩ := I.pin p hp
      refine ⟨(hs.2 p.1 ?_).trans e, n, ne, nf, d⟩
      intro q
      rw [q, hoc] at e
      have q' : oc = p.2 := Option.some.inj e
      exact d w' (by rw [← q']; exact hocd)
theorem store_ok {M : Model} {A : Around} {E : Value → Shared → Prop} {i : Nat} {x : Str} {v : V} {u : Value} {Q : Unit → Shared → Prop} (I : Inv X pins σ H s) (hN : X.N.Nodup) (hi : X.N[i]? = some x) (hx : Loc X.env.scope x) (r : RelV v u)
    (h : ∀ s', Inv X pins (σ.set i (some v)) H s' → Q () s') (hf : X.fn x = true ∨ X.env.scope.names.lookup x = some .local := by first | exact .inl rfl | exact .inr rfl | assumption) : wpAny M A (storeName X.env x u) Q E s :=
  store_ok2 I hN hi hx r (fun s' I' _ => h s' I') hf
theorem Inv.call' {s' : Shared} {ch : List Addr} (I : Inv X pins σ H s) (ho : s'.os = s.os) (u : Un (frs X.stack) ch H H' s.heap s'.heap) (hok : HOk X.prog X.w H' s'.heap) (hg : AllBare s'.gens)
    (hch : ∀ b ∈ ch, (b ∈ X.ex ∨ X.s₀.heap.objs.size ≤ b) ∧ b ≠ X.env.locals ∧ (∀ x c, X.env.cells.lookup x = some c → c ≠ b) ∧ ∀ p ∈ X.pn ++ pins, p.1 ≠ b) : Inv X pins σ H' s' := by
  obtain ⟨h', g', d', t', o'⟩ := s'
  have e : o' = s.os := ho
  subst e
  exact I.call (g' := g') (t' := t') (d' := d') u hok hg hch
end
noncomputable abbrev XK := Value → Option Addr → Hp → Prop
noncomputable abbrev St := List (Option V)
noncomputable abbrev VK := V → Hp → Prop
noncomputable abbrev TE := St → Hp → VK → Prop
noncomputable abbrev TT := St → Hp → (Bool → Hp → Prop) → Prop
noncomputable abbrev TA := St → Hp → (List V → Hp → Prop) → Prop
structure Ends where
  nx : St → Hp → Prop
  rt : VK
  bk : St → Hp → Prop := fun _ _ => False
  ct : St → Hp → Prop := fun _ _ => False
noncomputable abbrev TS := Ends → St → Hp → Prop
noncomputable def EP (X : Cx) (pins : List (Addr × Obj)) (σ : St) (Q : VK) (u : Value) (s' : Shared) : Prop := ∃ v H', Inv X pins σ H' s' ∧ RelV v u ∧ Q v H'
noncomputable def TP (X : Cx) (pins : List (Addr × Obj)) (σ : St) (Q : Bool → Hp → Prop) (b : Bool) (s' : Shared) : Prop := ∃ H', Inv X pins σ H' s' ∧ Q b H'
noncomputable def AP (X : Cx) (pins : List (Addr × Obj)) (σ : St) (Q : List V → Hp → Prop) (us : List Value) (s' : Shared) : Prop := ∃ vs H', Inv X pins σ H' s' ∧ Vals vs us ∧ Q vs H'
noncomputable def SP (X : Cx) (pins : List (Addr × Obj)) (D : Ends) (f : Flow) (s' : Shared) : Prop :=
  match f with
  | .next => ∃ σ' H', Inv X pins σ' H' s' ∧ D.nx σ' H'
  | .brk => ∃ σ' H', Inv X pins σ' H' s' ∧ D.bk σ' H'
  | .cont => ∃ σ' H', Inv X pins σ' H' s' ∧ D.ct σ' H'
  | .ret u => ∃ v σ' H', Inv X pins σ' H' s' ∧ RelV v u ∧ D.rt v H'
noncomputable def PE (X : Cx) (e : Expr) (t : TE) : Prop :=
  ∀ (pins : List (Addr × Obj)) (s : Shared) (σ : St) (H : Hp) (Q : VK), Inv X pins σ H s → t σ H Q → wpAny (model X.prog X.w) X.A (eval e X.env) (EP X pins σ Q) X.xe s
noncomputable def PT (X : Cx) (e : Expr) (t : TT) : Prop :=
  ∀ (pins : List (Addr × Obj)) (s : Shared) (σ : St) (H : Hp) (Q : Bool → Hp → Prop), Inv X pins σ H s → t σ H Q → wpAny (model X.prog X.w) X.A (isTrue e X.env (eval e X.env)) (TP X pins σ Q) X.xe s
noncomputable def PW (X : Cx) (e : Expr) (t : TT) : Prop :=
  ∀ (whole : Sem Value) (pins : List (Addr × Obj)) (s : Shared) (σ : St) (H : Hp) (Q : Bool → Hp → Prop), Inv X pins σ H s → t σ H Q → wpAny (model X.prog X.w) X.A (isTrue e X.env whole) (TP X pins σ Q) X.xe s
theorem PW.pt {X : Cx} {e : Expr} {t : TT} (h : PW X e t) : PT X e t := h _
noncomputable def PA (X : Cx) (es : List Expr) (t : TA) : Prop :=
  ∀ (pos : Pos) (pins : List (Addr × Obj)) (s : Shared) (σ : St) (H : Hp) (Q : List V → Hp → Prop), Inv X pins σ H s → t σ H Q → wpAny (model X.prog X.w) X.A (spliced (backTo pos (starEach es X.env))) (AP X pins σ Q) X.xe s
noncomputable def PS (X : Cx) (st : Stmt) (t : TS) : Prop :=
  ∀ (pins : List (Addr × Obj)) (s : Shared) (σ : St) (H : Hp) (D : Ends), Inv X pins σ H s → t D σ H → wpAny (model X.prog X.w) X.A (exec st X.env) (SP X pins D) X.xe s
noncomputable def PSs (X : Cx) (st : List Stmt) (t : TS) : Prop :=
  ∀ (pins : List (Addr × Obj)) (s : Shared) (σ : St) (H : Hp) (D : Ends), Inv X pins σ H s → t D σ H → wpAny (model X.prog X.w) X.A (execs st X.env) (SP X pins D) X.xe s
theorem thn {α : Type} {t : Sem α} {Q Q' : α → Shared → Prop} {M : Model} {A : Around} {E : Value → Shared → Prop} {s : Shared} (h : wpAny M A t Q E s) (hQ : ∀ a s, Q a s → Q' a s) : wpAny M A t Q' E s := wpAny_mono h hQ fun _ _ x => x
end L2
namespace L2
open PySem PySem.Spec PyProof.Rows
section
variable {X : Cx}
noncomputable def tVar (i : Nat) : TE := fun σ H Q => ∃ v, σ[i]? = some (some v) ∧ Q v H
noncomputable def tC (v : V) : TE := fun _ H Q => Q v H
theorem pe_var {i : Nat} {x : Str} {pos : Pos} (hN : X.N[i]? = some x) (hv : Vis X.env.scope x) (hd : (x == ("__debug__" : Str)) = false := by decide) (hcd : (x == ("__classdict__" : Str)) = false := by decide) : PE X (.Name x pos) (tVar i) := by
  intro pins s σ H Q I h
  obtain ⟨v, e, h⟩ := h
  obtain ⟨m, hn, hl⟩ := I.loc
  obtain ⟨u, r, l⟩ := hl i x v hN e hv
  have fin : EP X pins σ Q u s := ⟨v, H, I, r, h⟩
  rcases l with ⟨hk, hm⟩ | ⟨hk, c, hc, hcell⟩
  · exact wpAny_Name (wpAny_loadName_local I.ok.kind hk hn hm fin) hd
  · rcases hk with hk | hk
    · exact wpAny_Name (wpAny_loadName_cell I.ok.kind hk hc hcell fin) hd
    · exact wpAny_Name (wpAny_loadName_free I.ok.kind hk hc hcell fin hcd) hd
theorem pe_int {i j pos} : PE X (.Constant (.int i) j pos) (tC (.int i)) := fun _ _ _ H _ I h => wpAny_Constant_int ⟨.int i, H, I.tok _, ⟨_, rfl⟩, h⟩
theorem pe_bl {b j pos} : PE X (.Constant (.bool b) j pos) (tC (.bl b)) := fun _ _ _ H _ I h => Constant_bool ⟨.bl b, H, I, rfl, h⟩
theorem pe_non {j pos} : PE X (.Constant .none j pos) (tC .non) := fun _ _ _ H _ I h => Constant_none ⟨.non, H, I, rfl, h⟩
theorem pe_str {x j pos} : PE X (.Constant (.str x) j pos) (tC (.str x)) := fun _ _ _ H _ I h => Calls.Constant_str ⟨.str x, H, I.tok _, ⟨_, rfl⟩, h⟩
noncomputable def Gl (X : Cx) (x : Str) : Prop := X.env.kindOf x = some .globalImplicit
theorem ld_glob {E : Value → Shared → Prop} {pins : List (Addr × Obj)} {s : Shared} {σ : St} {H : Hp} {x : Str} {u : Value} {pos : Pos} {Q : Value → Shared → Prop} (I : Inv X pins σ H s) (hg : Gl X x) (hm : X.mg x = some u) (h : Q u s)
    (hd : (x == ("__debug__" : Str)) = false := by decide) : wpAny (model X.prog X.w) X.A (eval (.Name x pos) X.env) Q E s :=
  Calls.Name_function_global I.ok.kind hg (Calls.loadGlobal_global (by rw [I.ok.glob]; exact I.mod.glob.keeps I.bk) hm h) hd
theorem ld_blt {E : Value → Shared → Prop} {pins : List (Addr × Obj)} {s : Shared} {σ : St} {H : Hp} {x : Str} {u : Value} {pos : Pos} {Q : Value → Shared → Prop} (I : Inv X pins σ H s) (hg : Gl X x) (hm : X.mg x = none) (hv : bootBuiltins x = some u) (h : Q u s)
    (hn : x ≠ "__name__" := by decide) (hd : (x == ("__debug__" : Str)) = false := by decide) : wpAny (model X.prog X.w) X.A (eval (.Name x pos) X.env) Q E s := by
  obtain ⟨mb, h1, h2⟩ := I.mod.blt
  exact Calls.Name_function_global I.ok.kind hg (Calls.loadGlobal_builtin (by rw [I.ok.glob]; exact I.mod.glob.keeps I.bk) hm (by rw [I.ok.blt]; exact h1.keeps I.bk) ((h2 x hn).trans hv) h) hd
theorem pe_glob {x : Str} {v : V} {u : Value} {pos : Pos} (hg : Gl X x) (hm : X.mg x = some u) (r : RelV v u) (hd : (x == ("__debug__" : Str)) = false := by decide) : PE X (.Name x pos) (tC v) :=
  fun _ _ _ H _ I h => ld_glob I hg hm ⟨v, H, I, r, h⟩ hd
theorem pe_bltn {x : Str} {v : V} {u : Value} {pos : Pos} (hg : Gl X x) (hm : X.mg x = none) (hv : bootBuiltins x = some u) (r : RelV v u) (hn : x ≠ "__name__" := by decide) (hd : (x == ("__debug__" : Str)) = false := by decide) : PE X (.Name x pos) (tC v) :=
  fun _ _ _ H _ I h => ld_blt I hg hm hv ⟨v, H, I, r, h⟩ hn hd
variable {a b : Expr} {ta tb : TE} {pos : Pos}
noncomputable def PC (X : Cx) (op : CmpOp) (a b : Expr) (t : TE) : Prop :=
  ∀ (pins : List (Addr × Obj)) (s : Shared) (σ : St) (H : Hp) (Q : VK), Inv X pins σ H s → t σ H Q →
    wpAny (model X.prog X.w) X.A (eval a X.env) (fun v s₁ => wpAny (model X.prog X.w) X.A (eval b X.env) (fun u s₂ => wpAny (model X.prog X.w) X.A (compareOp op v u) (EP X pins σ Q) X.xe s₂) X.xe s₁) X.xe s
theorem nobehind (b : Expr) {op : CmpOp} (h : op ≠ .In) (h2 : op ≠ .NotIn) : behindInMarks op b = false := by
  have e1 : (op == CmpOp.In) = false := by cases op <;> first | rfl | exact absurd rfl h
  have e2 : (op == CmpOp.NotIn) = false := by cases op <;> first | rfl | exact absurd rfl h2
  cases b <;> simp [behindInMarks, e1, e2]
noncomputable def tB (t : TE) : TT := fun σ H Q => t σ H fun x H1 => ∃ c, x = .bl c ∧ Q c H1
theorem pt_cmp {op : CmpOp} {t : TE} (h : PC X op a b t) (h1 : behindInMarks op b = false := by first | exact nobehind _ (by decide) (by decide) | rfl) : PT X (.Compare a [op] [b] pos) (tB t) := by
  intro pins s σ H Q I hw
  refine wpAny_isTrue_Compare1 (thn (h pins s σ H _ I hw) fun v s1 h1 => thn h1 fun u s2 h2 => thn h2 fun c s3 ⟨x, H1, I1, r1, q1⟩ => ?_) h1
  obtain ⟨d, rfl, q⟩ := q1
  cases r1
  exact wpAny_truthy_bool ⟨H1, I1, q⟩
variable {tA tB' : TT} {rest : List Expr}
noncomputable def tAnd (t u : TT) : TT := fun σ H Q => t σ H fun c H1 => if c = true then u σ H1 Q else Q false H1
noncomputable def tOr (t u : TT) : TT := fun σ H Q => t σ H fun c H1 => if c = true then Q true H1 else u σ H1 Q
noncomputable def tNot (t : TT) : TT := fun σ H Q => t σ H fun c H1 => Q (!c) H1
theorem pw_and1 (ha : PT X a tA) : PW X (.BoolOp .And [a] pos) tA := by
  intro wh pins s σ H Q I h
  refine isTrue_and (thn (ha pins s σ H Q I h) fun c s1 e => ?_)
  cases c with
  | true => exact isTrue_and_nil e
  | false => exact e
theorem pw_or1 (ha : PT X a tA) : PW X (.BoolOp .Or [a] pos) tA := by
  intro wh pins s σ H Q I h
  refine isTrue_or (thn (ha pins s σ H Q I h) fun c s1 e => ?_)
  cases c with
  | false => exact isTrue_or_nil e
  | true => exact e
theorem pw_and (ha : PT X a tA) (hb : PW X (.BoolOp .And (b :: rest) pos) tB') : PW X (.BoolOp .And (a :: b :: rest) pos) (tAnd tA tB') := by
  intro wh pins s σ H Q I h
  refine isTrue_and (thn (ha pins s σ H _ I h) fun c s1 hh => ?_)
  obtain ⟨H1, I1, q1⟩ := hh
  cases c with
  | true => exact hb wh pins s1 σ H1 Q I1 q1
  | false => exact ⟨H1, I1, q1⟩
theorem pw_or (ha : PT X a tA) (hb : PW X (.BoolOp .Or (b :: rest) pos) tB') : PW X (.BoolOp .Or (a :: b :: rest) pos) (tOr tA tB') := by
  intro wh pins s σ H Q I h
  refine isTrue_or (thn (ha pins s σ H _ I h) fun c s1 hh => ?_)
  obtain ⟨H1, I1, q1⟩ := hh
  cases c with
  | true => exact ⟨H1, I1, q1⟩
  | false => exact hb wh pins s1 σ H1 Q I1 q1
theorem pt_not (ha : PT X a tA) : PT X (.UnaryOp .Not a pos) (tNot tA) := by
  intro pins s σ H Q I h
  exact isTrue_not (ha pins s σ H (fun c H1 => Q (!c) H1) I h)
theorem pe_one {op} {t : TE} (h : PE X a t) : PE X (.BoolOp op [a] pos) t := fun pins s σ H Q I hw => BoolOp_one (h pins s σ H Q I hw)
noncomputable def tIf (t : TT) (ta tb : TE) : TE := fun σ H Q => t σ H fun c H1 => if c = true then ta σ H1 Q else tb σ H1 Q
theorem pe_ifExp {c : Expr} (hc : PT X c tA) (ha : PE X a ta) (hb : PE X b tb) : PE X (.IfExp c a b pos) (tIf tA ta tb) := by
  intro pins s σ H Q I h
  refine wpAny_IfExp (thn (hc pins s σ H _ I h) fun d s1 hh => ?_)
  obtain ⟨H1, I1, q1⟩ := hh
  cases d with
  | true => exact ha pins s1 σ H1 Q I1 q1
  | false => exact hb pins s1 σ H1 Q I1 q1
end
end L2
namespace L2
open PySem PySem.Spec PyProof.Rows
noncomputable def SqL (K : PySem.W.Frag) (H : Hp) (a : Addr) (xs : List V) : Prop :=
  Rd H a (.lst xs) ∨
    ∃ (o : Obj) (its : Array Value) (n : Nat), K.lookup a = some o ∧ o.cls = .type "list" ∧ o.dict = none ∧ o.data = .seq its n ∧ its.size ≤ sizeLine ∧ Vals xs its.toList
noncomputable def SqT (K : PySem.W.Frag) (H : Hp) (a : Addr) (xs : List V) : Prop :=
  Rd H a (.tup xs) ∨
    ∃ (o : Obj) (its : Array Value) (n : Nat), K.lookup a = some o ∧ o.cls = .type "tuple" ∧ o.data = .seq its n ∧ its.size ≤ sizeLine ∧ Vals xs its.toList
noncomputable def absV : Value → Option V
  | .none => some .non
  | .bool b => some (.bl b)
  | .int i _ => some (.int i)
  | .str x _ => some (.str x)
  | .bytes b _ => some (.byt b)
  | .float b _ => some (.flt b)
  | .ref a => some (.ref a)
  | .type n => some (.ty n)
  | _ => none
theorem RelV.abs {x : V} {u : Value} (r : RelV x u) : absV u = some x := by
  cases x with
  | non => cases r; rfl
  | bl _ => cases r; rfl
  | int _ => obtain ⟨t, rfl⟩ := r; rfl
  | str _ => obtain ⟨t, rfl⟩ := r; rfl
  | byt _ => obtain ⟨t, rfl⟩ := r; rfl
  | flt _ => obtain ⟨t, rfl⟩ := r; rfl
  | ref _ => cases r; rfl
  | ty _ => cases r; rfl
theorem RelV.inj {x y : V} {u : Value} (r : RelV x u) (q : RelV y u) : x = y := Option.some.inj (r.abs.symm.trans q.abs)
theorem Vals.inj : ∀ {xs ys : List V} {us : List Value}, Vals xs us → Vals ys us → xs = ys := by
  intro xs ys us h
  induction h generalizing ys with
  | nil => intro g; cases g; rfl
  | cons r t ih =>
    intro g
    cases g with
    | cons r' t' => rw [r.inj r', ih t']
section
variable {X : Cx} {pins : List (Addr × Obj)} {σ : St} {H : Hp} {s : Shared} {a : Addr} {xs ys : List V}
theorem SqL.of {K : PySem.W.Frag} (h : H a = some (.lst xs)) : SqL K H a xs := .inl (.inl h)
theorem SqT.of {K : PySem.W.Frag} (h : H a = some (.tup xs)) : SqT K H a xs := .inl (.inl h)
theorem Inv.list (I : Inv X pins σ H s) (h : SqL X.K H a xs) : ∃ its : List Value, Vals xs its ∧ PlainL s.heap a its.toArray ∧ xs.length ≤ sizeLine := by
  rcases h with h | ⟨o, its, n, hk, hc, hd, hs, hz, r⟩
  · obtain ⟨z, its, n, r, e⟩ := h.ok I.hok
    exact ⟨its, r, ⟨_, n, e, rfl, rfl, rfl⟩, z⟩
  · refine ⟨its.toList, r, ⟨o, n, I.kIn a o hk, hc, hd, by simpa using hs⟩, ?_⟩
    have e := r.length
    simp only [Array.length_toList] at e
    lia
theorem Inv.tuple (I : Inv X pins σ H s) (h : SqT X.K H a xs) : ∃ its : List Value, Vals xs its ∧ IsTup s.heap a its.toArray ∧ xs.length ≤ sizeLine := by
  rcases h with h | ⟨o, its, n, hk, hc, hs, hz, r⟩
  · obtain ⟨z, its, r, p⟩ := h.ok I.hok
    exact ⟨its, r, p, z⟩
  · refine ⟨its.toList, r, ⟨o, I.kIn a o hk, hc, n, by simpa using hs⟩, ?_⟩
    have e := r.length
    simp only [Array.length_toList] at e
    lia
theorem Inv.list_inj (I : Inv X pins σ H s) (h : SqL X.K H a xs) (h' : SqL X.K H a ys) : xs = ys := by
  obtain ⟨its, r, ⟨o, n, e, _, _, d⟩, _⟩ := I.list h
  obtain ⟨its', r', ⟨o', n', e', _, _, d'⟩, _⟩ := I.list h'
  rw [e] at e'; cases e'
  rw [d] at d'
  injection d' with d1 _
  have : its = its' := by simpa using congrArg Array.toList d1
  subst this
  exact r.inj r'
theorem Inv.tuple_inj (I : Inv X pins σ H s) (h : SqT X.K H a xs) (h' : SqT X.K H a ys) : xs = ys := by
  obtain ⟨its, r, ⟨o, e, _, n, d⟩, _⟩ := I.tuple h
  obtain ⟨its', r', ⟨o', e', _, n', d'⟩, _⟩ := I.tuple h'
  rw [e] at e'; cases e'
  rw [d] at d'
  injection d' with d1 _
  have : its = its' := by simpa using congrArg Array.toList d1
  subst this
  exact r.inj r'
end
noncomputable abbrev Cx.wish (X : Cx) (E : Value → Shared → Prop) : Cx := { X with xe := E }
noncomputable abbrev Cx.nox (X : Cx) : Cx := X.wish fun _ _ => False
theorem Cx.Ok.wish {X : Cx} (ok : X.Ok) (E : Value → Shared → Prop) : (X.wish E).Ok :=
  ⟨ok.mod, ok.kind, ok.glob, ok.blt, ok.above, ok.inj, ok.has, ok.cab, ok.hd, ok.frames, ok.stk, ok.exf, ok.bs, ok.bsz, ok.noex, ok.exfs, ok.funs, ok.frf⟩
theorem Cx.Ok.unwish {X : Cx} {E : Value → Shared → Prop} (ok : (X.wish E).Ok) : X.Ok :=
  ⟨ok.mod, ok.kind, ok.glob, ok.blt, ok.above, ok.inj, ok.has, ok.cab, ok.hd, ok.frames, ok.stk, ok.exf, ok.bs, ok.bsz, ok.noex, ok.exfs, ok.funs, ok.frf⟩
section
variable {X : Cx} {pins : List (Addr × Obj)} {σ : St} {H : Hp} {s : Shared} {E : Value → Shared → Prop}
theorem Inv.wish (I : Inv X pins σ H s) (E : Value → Shared → Prop) : Inv (X.wish E) pins σ H s := ⟨I.ok.wish E, I.os, I.bare, I.base, I.loc, I.cell, I.free, I.freeC, I.pin, I.hok, I.len⟩
theorem Inv.unwish (I : Inv (X.wish E) pins σ H s) : Inv X pins σ H s := ⟨I.ok.unwish, I.os, I.bare, I.base, I.loc, I.cell, I.free, I.freeC, I.pin, I.hok, I.len⟩
theorem SP.unwish {D : Ends} {f : Flow} {s' : Shared} (h : SP (X.wish E) pins D f s') : SP X pins D f s' := by
  cases f with
  | next => obtain ⟨σ', H', I, q⟩ := h; exact ⟨σ', H', I.unwish, q⟩
  | brk => obtain ⟨σ', H', I, q⟩ := h; exact ⟨σ', H', I.unwish, q⟩
  | cont => obtain ⟨σ', H', I, q⟩ := h; exact ⟨σ', H', I.unwish, q⟩
  | ret u => obtain ⟨v, σ', H', I, r, q⟩ := h; exact ⟨v, σ', H', I.unwish, r, q⟩
theorem PSs.nox {st : List Stmt} {t : TS} (h : PSs X.nox st t) : PSs X st t := fun pins s σ H D I hw =>
  wpAny_mono (h pins s σ H D (I.wish _) hw) (fun _ _ q => q.unwish) fun _ _ z => False.elim z
end
section
variable {X : Cx} {st : Stmt} {rest : List Stmt} {t u : TS} {e : Expr} {te : TE} {pos : Pos}
noncomputable def tNext : TS := fun D σ H => D.nx σ H
noncomputable def tSeq (t u : TS) : TS := fun D σ H => t { D with nx := u D } σ H
theorem pss_nil : PSs X [] tNext := fun _ _ σ H _ I h => wpAny_execs_nil ⟨σ, H, I, h⟩
theorem pss_cons (h1 : PS X st t) (h2 : PSs X rest u) : PSs X (st :: rest) (tSeq t u) := by
  intro pins s σ H D I h
  refine wpAny_execs_cons (thn (h1 pins s σ H { D with nx := u D } I h) fun f s1 q => ?_)
  cases f with
  | next =>
    obtain ⟨σ', H', I', q⟩ := q
    exact h2 pins s1 σ' H' D I' q
  | ret v => exact q
  | brk => exact q
  | cont => exact q
theorem pss_one (h1 : PS X st t) : PSs X [st] t := by
  intro pins s σ H D I h
  refine wpAny_execs_cons (thn (h1 pins s σ H D I h) fun f s1 q => ?_)
  cases f with
  | next => exact wpAny_execs_nil q
  | ret v => exact q
  | brk => exact q
  | cont => exact q
theorem Inv.quiet {pins : List (Addr × Obj)} {σ : St} {H : Hp} {s : Shared} (I : Inv X pins σ H s) : interactive X.env = false := by simp [interactive, I.ok.kind]
noncomputable def tDrop (te : TE) : TS := fun D σ H => te σ H fun _ H1 => D.nx σ H1
theorem ps_expr (he : PE X e te) (hs : swapsWith e none pos.line X.env = pure false := by rfl) : PS X (.Expr e pos) (tDrop te) := by
  intro pins s σ H D I h
  exact wpAny_Expr_any (thn (he pins s σ H _ I h) fun v s1 ⟨x, H1, I1, r1, q1⟩ => ⟨σ, H1, I1, q1⟩) I.quiet hs
noncomputable def tRet (te : TE) : TS := fun D σ H => te σ H D.rt
theorem ps_ret (he : PE X e te) : PS X (.Return (some e) pos) (tRet te) := by
  intro pins s σ H D I h
  exact wpAny_Return_some (thn (he pins s σ H _ I h) fun v s1 ⟨x, H1, I1, r1, q1⟩ => ⟨x, σ, H1, I1, r1, q1⟩)
noncomputable def tIfS (c : TT) (t u : TS) : TS := fun D σ H => c σ H fun b H1 => if b = true then t D σ H1 else u D σ H1
theorem ps_if {c : Expr} {a b : List Stmt} {tc : TT} (hc : PT X c tc) (ha : PSs X a t) (hb : PSs X b u) : PS X (.If c a b pos) (tIfS tc t u) := by
  intro pins s σ H D I h
  refine wpAny_If (thn (hc pins s σ H _ I h) fun d s1 hh => ?_)
  obtain ⟨H1, I1, q1⟩ := hh
  cases d with
  | true => exact ha pins s1 σ H1 D I1 q1
  | false => exact hb pins s1 σ H1 D I1 q1
end
noncomputable abbrev TG := V → St → Hp → (St → Hp → Prop) → Prop
noncomputable abbrev TGs := List V → St → Hp → (St → Hp → Prop) → Prop
noncomputable def PG (X : Cx) (target : Expr) (t : TG) : Prop :=
  ∀ (pins : List (Addr × Obj)) (s : Shared) (σ : St) (H : Hp) (v : V) (u : Value) (Q : St → Hp → Prop), Inv X pins σ H s → RelV v u → t v σ H Q →
    wpAny (model X.prog X.w) X.A (assign target X.env u) (fun _ s' => ∃ σ' H', Inv X pins σ' H' s' ∧ Q σ' H') X.xe s
noncomputable def PGs (X : Cx) (ts : List Expr) (t : TGs) : Prop :=
  ∀ (pins : List (Addr × Obj)) (s : Shared) (σ : St) (H : Hp) (vs : List V) (us : List Value) (Q : St → Hp → Prop), Inv X pins σ H s → Vals vs us → t vs σ H Q →
    wpAny (model X.prog X.w) X.A (assignInOrder ((assignEach ts X.env).map (·.2)) us) (fun _ s' => ∃ σ' H', Inv X pins σ' H' s' ∧ Q σ' H') X.xe s
noncomputable abbrev TSet := V → V → V → Hp → (Hp → Prop) → Prop
noncomputable def PSet (X : Cx) (t : TSet) : Prop :=
  ∀ (pins : List (Addr × Obj)) (s : Shared) (σ : St) (H : Hp) (o i v : V) (ov iv u : Value) (Q : Hp → Prop), Inv X pins σ H s → RelV o ov → RelV i iv → RelV v u → t o i v H Q →
    wpAny (model X.prog X.w) X.A (setItem ov iv u) (fun _ s' => ∃ H', Inv X pins σ H' s' ∧ Q H') X.xe s
noncomputable abbrev TIp := V → V → Hp → VK → Prop
noncomputable def PIp (X : Cx) (op : Operator) (t : TIp) : Prop :=
  ∀ (pins : List (Addr × Obj)) (s : Shared) (σ : St) (H : Hp) (x y : V) (v u : Value) (Q : VK), Inv X pins σ H s → RelV x v → RelV y u → t x y H Q →
    wpAny (model X.prog X.w) X.A (inplaceOp op v u) (EP X pins σ Q) X.xe s
section
variable {X : Cx} {pos : Pos}
noncomputable def gName (i : Nat) : TG := fun v σ H Q => Q (σ.set i (some v)) H
theorem pg_name {i : Nat} {x : Str} (hN : X.N.Nodup) (hi : X.N[i]? = some x) (hx : Loc X.env.scope x) (hf : X.fn x = true ∨ X.env.scope.names.lookup x = some .local := by first | exact .inl rfl | exact .inr rfl | assumption) : PG X (.Name x pos) (gName i) := by
  intro pins s σ H v u Q I r h
  exact wpAny_assign_Name (store_ok I hN hi hx r (fun s' I' => ⟨_, H, I', h⟩) hf)
noncomputable def gNil : TGs := fun vs σ H Q => vs = [] ∧ Q σ H
noncomputable def gCons (t : TG) (u : TGs) : TGs := fun vs σ H Q => ∃ v r, vs = v :: r ∧ t v σ H fun σ' H' => u r σ' H' Q
theorem pgs_nil : PGs X [] gNil := by
  intro pins s σ H vs us Q I r h
  obtain ⟨e, h⟩ := h
  subst e
  cases r
  exact assignInOrder_nil ⟨σ, H, I, h⟩
theorem pgs_cons {e : Expr} {es : List Expr} {t : TG} {u : TGs} (h1 : PG X e t) (h2 : PGs X es u)
    (hs : (assignEach (e :: es) X.env).map (·.2) = assign e X.env :: (assignEach es X.env).map (·.2) := by rfl) : PGs X (e :: es) (gCons t u) := by
  intro pins s σ H vs us Q I r h
  obtain ⟨v, vr, e1, h⟩ := h
  subst e1
  cases r with
  | cons r rr =>
    rw [hs]
    refine assignInOrder_cons (thn (h1 pins s σ H _ _ _ I r h) fun _ s1 hh => ?_)
    obtain ⟨σ1, H1, I1, q1⟩ := hh
    exact h2 pins s1 σ1 H1 _ _ Q I1 rr q1
noncomputable def gTup (K : PySem.W.Frag) (n : Nat) (t : TGs) : TG := fun v σ H Q => ∃ a xs, v = .ref a ∧ SqT K H a xs ∧ xs.length = n ∧ t xs σ H Q
theorem pg_tup {es : List Expr} {k : Nat} {t : TGs} {n : Nat} (hc : X.calm = true) (h : PGs X es t)
    (hn : (assignEach es X.env).length = n := by rfl) (hst : (assignEach es X.env).findIdx? (·.1) = none := by rfl) : PG X (.Tuple es k pos) (gTup X.K n t) := by
  intro pins s σ H v u Q I r hw
  obtain ⟨a, xs, e1, hq, hl, hw⟩ := hw
  subst e1
  cases r
  obtain ⟨its, rv, ht, hz⟩ := I.tuple hq
  refine assign_Tuple_tuple (I.ok.hd hc) ht (by simp [hn, ← hl, rv.length]) hst fun h' hx => ?_
  have I1 : Inv X pins σ H { s with heap := h' } := I.kept (t' := s.toks) fun b o e => hx b o (Nat.ne_of_lt (Heap.lt_size e)) e
  exact h pins _ σ H xs _ Q I1 (by simpa using rv) hw
noncomputable def gSub (to ti : TE) (t : TSet) : TG := fun v σ H Q => to σ H fun o H1 => ti σ H1 fun i H2 => t o i v H2 fun H3 => Q σ H3
theorem pg_sub {o i : Expr} {to ti : TE} {t : TSet} (ho : PE X o to) (hi : PE X i ti) (hs : PSet X t)
    (ha : ∀ v, assign (.Subscript o i pos) X.env v = (do
      let ov ← holding [v] (eval o X.env)
      let iv ← holding [v, ov] (eval i X.env)
      standAt pos
      holding [v, ov, iv] (setItem ov iv v)
      release [v, ov, iv] []) := by intro _; rfl) : PG X (.Subscript o i pos) (gSub to ti t) := by
  intro pins s σ H v u Q I r h
  rw [ha]
  refine wpAny_bind (wpAny_holding (thn (ho pins s σ H _ I h) fun ov s1 hh => ?_))
  obtain ⟨x, H1, I1, r1, q1⟩ := hh
  refine wpAny_bind (wpAny_holding (thn (hi pins s1 σ H1 _ I1 q1) fun iv s2 hh => ?_))
  obtain ⟨y, H2, I2, r2, q2⟩ := hh
  refine wpAny_bind (wpAny_standAt (wpAny_bind (wpAny_holding (thn (hs pins s2 σ H2 x y v ov iv u _ I2 r1 r2 r q2) fun _ s3 hh => ?_))))
  obtain ⟨H3, I3, q3⟩ := hh
  exact wpAny_release ⟨σ, H3, I3, q3⟩
noncomputable def tAsg (te : TE) (g : TG) : TS := fun D σ H => te σ H fun x H1 => g x σ H1 D.nx
theorem ps_asg {tg e : Expr} {te : TE} {g : TG} (he : PE X e te) (hg : PG X tg g) (hs : swapsWithSole [tg] e pos.line X.env = pure false := by rfl) (hw : swappedStores [tg] e X.env = pure none := by rfl)
    (h1 : (assignEach [tg] X.env).map (·.2) = [assign tg X.env] := by rfl) : PS X (.Assign [tg] e pos) (tAsg te g) := by
  intro pins s σ H D I h
  refine wpAny_Assign_stores (thn (he pins s σ H _ I h) fun v s1 ⟨x, H1, I1, r1, q1⟩ => ?_) hs hw
  rw [h1]
  exact thn (hg pins s1 σ H1 x v _ I1 r1 q1) fun _ s2 q => q
theorem ps_set {i : Nat} {x : Str} {e : Expr} {te : TE} {pos' : Pos} (hN : X.N.Nodup) (hi : X.N[i]? = some x) (hx : Loc X.env.scope x) (he : PE X e te) (hs : swapsWith e (some (.Name x pos')) pos.line X.env = pure false := by rfl) (hf : X.fn x = true ∨ X.env.scope.names.lookup x = some .local := by first | exact .inl rfl | exact .inr rfl | assumption) :
    PS X (.Assign [.Name x pos'] e pos) (tAsg te (gName i)) := by
  intro pins s σ H D I h
  refine wpAny_Assign_Name (thn (he pins s σ H _ I h) fun v s1 ⟨y, H1, I1, r1, q1⟩ => ?_) hs
  exact store_ok I1 hN hi hx r1 (fun s2 I2 => ⟨_, H1, I2, q1⟩) hf
noncomputable def tAug (i : Nat) (te : TE) (ti : TIp) : TS := fun D σ H => ∃ x, σ[i]? = some (some x) ∧ te σ H fun y H1 => ti x y H1 fun z H2 => D.nx (σ.set i (some z)) H2
theorem ps_aug {i : Nat} {x : Str} {e : Expr} {te : TE} {op : Operator} {ti : TIp} {pos' : Pos} (hN : X.N.Nodup) (hi : X.N[i]? = some x) (hx : Loc X.env.scope x) (he : PE X e te) (ho : PIp X op ti) (hf : X.fn x = true ∨ X.env.scope.names.lookup x = some .local := by first | exact .inl rfl | exact .inr rfl | assumption) :
    PS X (.AugAssign (.Name x pos') op e pos) (tAug i te ti) := by
  intro pins s σ H D I h
  obtain ⟨v, e1, h⟩ := h
  obtain ⟨m, hn, hl⟩ := I.loc
  have vis : Vis X.env.scope x := by rcases hx with k | k; exact .inl k; exact .inr (.inl k)
  obtain ⟨u, r, l⟩ := hl i x v hi e1 vis
  refine wpAny_AugAssign_Name ?_
  have go : wpAny (model X.prog X.w) X.A (eval e X.env) (fun w s₂ => wpAny (model X.prog X.w) X.A (inplaceOp op u w) (fun r s₃ => wpAny (model X.prog X.w) X.A (storeName X.env x r) (fun _ => SP X pins D .next) X.xe s₃) X.xe s₂) X.xe s := by
    refine thn (he pins s σ H _ I h) fun w s1 hh => ?_
    obtain ⟨y, H1, I1, r1, q1⟩ := hh
    refine thn (ho pins s1 σ H1 v y u w _ I1 r r1 q1) fun z s2 hh => ?_
    obtain ⟨zv, H2, I2, r2, q2⟩ := hh
    exact store_ok I2 hN hi hx r2 (fun s3 I3 => ⟨_, H2, I3, q2⟩) hf
  rcases l with ⟨hk, hm⟩ | ⟨hk, c, hc, hcell⟩
  · exact wpAny_loadName_local I.ok.kind hk hn hm go
  · rcases hk with hk | hk
    · exact wpAny_loadName_cell I.ok.kind hk hc hcell go
    · rcases hx with k | k
      · have : X.env.scope.names.lookup x = some .free := hk
        rw [k] at this; cases this
      · have : X.env.scope.names.lookup x = some .free := hk
        rw [k] at this; cases this
noncomputable def ipI (f : Int → Int → Int) : TIp := fun x y H Q => ∃ i j, x = .int i ∧ y = .int j ∧ Q (.int (f i j)) H
theorem ip_add : PIp X .Add (ipI fun i j => i + j) := by
  intro pins s σ H x y v u Q I r1 r2 h
  obtain ⟨i, j, e1, e2, q⟩ := h
  subst e1; subst e2
  obtain ⟨t, rfl⟩ := r1
  obtain ⟨t', rfl⟩ := r2
  exact iadd_int ⟨.int _, H, I.tok _, ⟨_, rfl⟩, q⟩
end
section
variable {X : Cx} {pos : Pos}
noncomputable def tWhile (c : TT) (tb : TS) : TS := fun D σ H => ∃ W : Nat → St → Hp → Prop, (∃ m, W m σ H) ∧ ∀ m σ H, W m σ H →
  c σ H fun b H1 => if b = true then ∃ N : St → Hp → Prop, (∀ σ' H', N σ' H' → ∃ m', m' < m ∧ W m' σ' H') ∧ tb { D with nx := N, ct := N, bk := D.nx } σ H1 else D.nx σ H1
theorem ps_while {c : Expr} {body : List Stmt} {tc : TT} {tb : TS} (hp : PassesOwn (model X.prog X.w) X.A X.env X.xe) (hc : PT X c tc) (hb : PSs X body tb) : PS X (.While c body [] pos) (tWhile tc tb) := by
  intro pins s σ H D I h
  obtain ⟨W, ⟨m0, w0⟩, turn⟩ := h
  refine wpAny_While (codeAny_whileLoop (fun n s' => ∃ σ' H', Inv X pins σ' H' s' ∧ W n σ' H') ?_ m0 ⟨σ, H, I, w0⟩)
  rintro n s1 ⟨σ1, H1, I1, w1⟩
  refine wpAny_passesOwn hp (thn (hc pins s1 σ1 H1 _ I1 (turn n σ1 H1 w1)) fun b s2 hh => ?_)
  obtain ⟨H2, I2, q2⟩ := hh
  cases b with
  | true =>
    obtain ⟨N, hN, q2⟩ := q2
    rw [if_pos rfl]
    refine wpAny_passesOwn hp (thn (hb pins s2 σ1 H2 _ I2 q2) fun f s3 q3 => ?_)
    cases f with
    | next =>
      obtain ⟨σ3, H3, I3, n3⟩ := q3
      obtain ⟨m', hm, w3⟩ := hN σ3 H3 n3
      exact ⟨m', hm, σ3, H3, I3, w3⟩
    | cont =>
      obtain ⟨σ3, H3, I3, n3⟩ := q3
      obtain ⟨m', hm, w3⟩ := hN σ3 H3 n3
      exact ⟨m', hm, σ3, H3, I3, w3⟩
    | brk => exact q3
    | ret v => exact q3
  | false =>
    rw [if_neg Bool.false_ne_true]
    exact wpAny_execs_nil ⟨σ1, H2, I2, q2⟩
end
structure It where
  go : Nat → Hp → Prop
  yld : Nat → Hp → V → Hp → Prop
  stop : Nat → Hp → Prop
noncomputable def FpOk (X : Cx) (pins : List (Addr × Obj)) (H : Hp) (b : Addr) : Prop :=
  H b = none ∧ b ≠ X.env.locals ∧ b ∉ X.fs ∧ (b ∈ X.ex ∨ X.s₀.heap.objs.size ≤ b) ∧ (∀ x c, X.env.cells.lookup x = some c → c ≠ b) ∧ ∀ p ∈ X.pn ++ pins, p.1 ≠ b
theorem Inv.fpOk {X : Cx} {pins : List (Addr × Obj)} {σ : St} {H H' : Hp} {s : Shared} {b : Addr} (I : Inv X pins σ H s) (hb : s.heap.objs.size ≤ b) (hn : H' b = none) : FpOk X pins H' b := by
  refine ⟨hn, Nat.ne_of_gt (Nat.lt_of_lt_of_le I.lt hb), I.nofs hb, .inr (Nat.le_trans I.sz hb), fun x c e z => ?_, fun p hp z => ?_⟩
  · obtain ⟨v, q⟩ := I.cell x c e
    exact absurd (Nat.lt_of_lt_of_le q.lt (by rw [z]; exact hb)) (Nat.lt_irrefl _)
  · exact absurd (Nat.lt_of_lt_of_le (Heap.lt_size (I.pin p hp).1) (by rw [z]; exact hb)) (Nat.lt_irrefl _)
structure Turn (P : Program) (w : World) (K : PySem.W.Frag) (tg : Expr) (J : It) (fp : List Addr) (it : Addr) (tn : Nat → Heap → Prop) : Prop where
  mem : it ∈ fp
  obj : ∀ i h, tn i h → ∀ b ∈ fp, ∃ o, h.get? b = some o ∧ ∀ v, o.data ≠ .cell v
  keep : ∀ i h h', tn i h → (∀ b ∈ fp, ∀ o, h.get? b = some o → h'.get? b = some o) → tn i h'
  item : ∀ (X : Cx), X.prog = P → X.w = w → X.K = K → X.calm = true → ∀ (i : Nat) (pins : List (Addr × Obj)) (s : Shared) (σ : St) (H : Hp) (E : Value → Shared → Prop), Inv X pins σ H s → (∀ b ∈ fp, FpOk X pins H b) → tn i s.heap → J.go i H →
    wpAny (model P w) X.A (pyNext (.ref it)) (fun r s1 => ∃ u, r = some u ∧
      wpAny (model P w) X.A (letOwnedTupleGo tg (.ref it) u) (fun _ s2 => ∃ x H', Inv X pins σ H' s2 ∧ RelV x u ∧ J.yld i H x H' ∧ tn (i + 1) s2.heap ∧ ∀ b ∈ fp, H' b = none) E s1) E s
  done : ∀ (X : Cx), X.prog = P → X.w = w → X.K = K → X.calm = true → ∀ (i : Nat) (pins : List (Addr × Obj)) (s : Shared) (σ : St) (H : Hp) (E : Value → Shared → Prop), Inv X pins σ H s → (∀ b ∈ fp, FpOk X pins H b) → tn i s.heap → J.stop i H →
    wpAny (model P w) X.A (pyNext (.ref it)) (fun r s1 => r = none ∧ Inv X pins σ H s1) E s
  self : ∀ (A : Around) (i : Nat) (s : Shared) (Q : Value → Shared → Prop) (E : Value → Shared → Prop), tn i s.heap → Q (.ref it) s → wpAny (model P w) A (pyIter (.ref it)) Q E s
noncomputable abbrev TI := St → Hp → (It → Hp → Prop) → Prop
noncomputable def PIE (X : Cx) (pins : List (Addr × Obj)) (σ : St) (tg : Expr) (R : It → Hp → Prop) (itv : Value) (s2 : Shared) : Prop :=
  ∃ (it : Addr) (fp : List Addr) (tn : Nat → Heap → Prop) (J : It) (H' : Hp), itv = .ref it ∧ Inv X pins σ H' s2 ∧ Turn X.prog X.w X.K tg J fp it tn ∧ tn 0 s2.heap ∧ (∀ b ∈ fp, FpOk X pins H' b) ∧ R J H'
noncomputable def PI (X : Cx) (tg iter : Expr) (wi : TI) : Prop :=
  ∀ (pins : List (Addr × Obj)) (s : Shared) (σ : St) (H : Hp) (R : It → Hp → Prop), Inv X pins σ H s → wi σ H R →
    wpAny (model X.prog X.w) X.A (eval iter X.env) (fun v s1 => wpAny (model X.prog X.w) X.A (pyIter v) (PIE X pins σ tg R) X.xe s1) X.xe s
theorem go_of {M : Model} {A : Around} {E : Value → Shared → Prop} {s : Shared} {tg : Expr} {it : Addr} {u : Value} {o : Obj} {n : String} {vs : Array Value} {Q : Unit → Shared → Prop} (ho : s.heap.get? it = some o) (hc : o.cls = .type n) (hd : o.data = .fields vs)
    (hn : ["enumerate", "zip", "dict_itemiterator", "dict_reverseitemiterator", "odict_iterator", "itertools.zip_longest", "itertools.pairwise"].contains n = false) (hQ : Q () s) : wpAny M A (letOwnedTupleGo tg (.ref it) u) Q E s := by
  unfold letOwnedTupleGo
  cases tg <;> first
    | exact wpAny_pure hQ
    | (cases u <;> first
        | exact wpAny_pure hQ
        | (refine wpAny_bind (wpAny_load ho ?_)
           rw [hc, hd]
           show wpAny M A (if (["enumerate", "zip", "dict_itemiterator", "dict_reverseitemiterator", "odict_iterator", "itertools.zip_longest", "itertools.pairwise"].contains n && vs[0]? == some (rawInt _)) = true then _ else _) Q E s
           rw [if_neg (by intro h; rw [hn, Bool.false_and] at h; cases h)]
           exact wpAny_pure hQ))
noncomputable def Itl (K : PySem.W.Frag) (a : Addr) : It :=
  ⟨fun i H => ∃ xs x, SqL K H a xs ∧ xs[i]? = some x, fun i H x H' => H' = H ∧ ∀ xs, SqL K H a xs → xs[i]? = some x, fun i H => ∃ xs, SqL K H a xs ∧ xs.length ≤ i⟩
noncomputable def Itt (K : PySem.W.Frag) (a : Addr) : It :=
  ⟨fun i H => ∃ xs x, SqT K H a xs ∧ xs[i]? = some x, fun i H x H' => H' = H ∧ ∀ xs, SqT K H a xs → xs[i]? = some x, fun i H => ∃ xs, SqT K H a xs ∧ xs.length ≤ i⟩
noncomputable def Itr (lo : Int) (n : Nat) : It := ⟨fun i _ => i < n, fun i H x H' => H' = H ∧ x = .int (lo + i), fun i _ => n ≤ i⟩
theorem turn_list {P : Program} {w : World} {K : PySem.W.Frag} {tg : Expr} (a it : Addr) : Turn P w K tg (Itl K a) [it] it (fun i h => h.IsListIter it a i) where
  mem := by simp
  obj := fun i h st b hb => by
    have e : b = it := by simpa using hb
    subst e
    obtain ⟨o, e, c, d⟩ := st
    exact ⟨o, e, fun v z => by rw [d] at z; cases z⟩
  keep := fun i h h' st k => st.at fun o e => k it (by simp) o e
  item := by
    intro X hP hw hK hc i pins s σ H E I hf st hg
    subst hP hw hK
    obtain ⟨xs, x, hq, hx⟩ := hg
    obtain ⟨its, rv, p, hz⟩ := I.list hq
    obtain ⟨u, hu, ru⟩ := rv.get hx
    obtain ⟨f0, f1, f2, f3, f4, f5⟩ := hf it (by simp)
    refine wpAny_pyNext_list_item st p.isList (x := u) (by simpa using hu) fun h' st' sb => ?_
    have I1 : Inv X pins σ H { s with heap := h' } := I.turned (t' := s.toks) (fun b o hb e => (sb.2 b hb).trans e) f0 f1 f3 f4 f5
    obtain ⟨o, e, c, d⟩ := id st'
    exact ⟨u, rfl, go_of (s := { s with heap := h' }) e c d (by decide) ⟨x, H, I1, ru, ⟨rfl, fun ys hy => by rw [I.list_inj hy hq]; exact hx⟩, st', fun b hb => (hf b hb).1⟩⟩
  done := by
    intro X hP hw hK hc i pins s σ H E I hf st hg
    subst hP hw hK
    obtain ⟨xs, hq, hx⟩ := hg
    obtain ⟨its, rv, p, hz⟩ := I.list hq
    obtain ⟨f0, f1, f2, f3, f4, f5⟩ := hf it (by simp)
    have hl := rv.length
    exact wpAny_pyNext_list_end (I.ok.hd hc) st p.isList (by simp; lia) fun h' eb => ⟨rfl, I.turned (t' := s.toks) (fun b o hb e => eb b o hb e) f0 f1 f3 f4 f5⟩
  self := fun _ _ _ _ _ st h => wpAny_pyIter_listiter st h
theorem turn_tuple {P : Program} {w : World} {K : PySem.W.Frag} {tg : Expr} (a it : Addr) : Turn P w K tg (Itt K a) [it] it (fun i h => h.IsTupleIter it a i) where
  mem := by simp
  obj := fun i h st b hb => by
    have e : b = it := by simpa using hb
    subst e
    obtain ⟨o, e, c, d⟩ := st
    exact ⟨o, e, fun v z => by rw [d] at z; cases z⟩
  keep := fun i h h' st k => st.at fun o e => k it (by simp) o e
  item := by
    intro X hP hw hK hc i pins s σ H E I hf st hg
    subst hP hw hK
    obtain ⟨xs, x, hq, hx⟩ := hg
    obtain ⟨its, rv, p, hz⟩ := I.tuple hq
    obtain ⟨u, hu, ru⟩ := rv.get hx
    obtain ⟨f0, f1, f2, f3, f4, f5⟩ := hf it (by simp)
    refine wpAny_pyNext_tuple_item st (show s.heap.IsTuple a its.toArray from p) (x := u) (by simpa using hu) fun h' st' sb => ?_
    have I1 : Inv X pins σ H { s with heap := h' } := I.turned (t' := s.toks) (fun b o hb e => (sb.2 b hb).trans e) f0 f1 f3 f4 f5
    obtain ⟨o, e, c, d⟩ := id st'
    exact ⟨u, rfl, go_of (s := { s with heap := h' }) e c d (by decide) ⟨x, H, I1, ru, ⟨rfl, fun ys hy => by rw [I.tuple_inj hy hq]; exact hx⟩, st', fun b hb => (hf b hb).1⟩⟩
  done := by
    intro X hP hw hK hc i pins s σ H E I hf st hg
    subst hP hw hK
    obtain ⟨xs, hq, hx⟩ := hg
    obtain ⟨its, rv, p, hz⟩ := I.tuple hq
    obtain ⟨f0, f1, f2, f3, f4, f5⟩ := hf it (by simp)
    have hl := rv.length
    exact wpAny_pyNext_tuple_end (I.ok.hd hc) st (show s.heap.IsTuple a its.toArray from p) (by simp; lia) fun h' eb => ⟨rfl, I.turned (t' := s.toks) (fun b o hb e => eb b o hb e) f0 f1 f3 f4 f5⟩
  self := fun _ _ _ _ _ st h => wpAny_pyIter_tupleiter st h
theorem turn_range {P : Program} {w : World} {K : PySem.W.Frag} {tg : Expr} (it : Addr) (lo : Int) (n : Nat) : Turn P w K tg (Itr lo n) [it] it (fun i h => IsRangeIter h it (lo + (i : Nat) * 1) ((n : Int) - (i : Nat)) 1) where
  mem := by simp
  obj := fun i h st b hb => by
    have e : b = it := by simpa using hb
    subst e
    exact ⟨_, st, fun v z => by
      have z' : Data.fields _ = Data.cell v := z
      cases z'⟩
  keep := fun i h h' st k => k it (by simp) _ st
  item := by
    intro X hP hw hK hc i pins s σ H E I hf st hg
    subst hP hw hK
    obtain ⟨f0, f1, f2, f3, f4, f5⟩ := hf it (by simp)
    have W := Walks.range (prog := X.prog) (w := X.w) (I.ok.hd hc) it lo 1 n
    refine W.item i s _ _ hg st fun v h' tk hv st' kk => ?_
    obtain ⟨t, rfl⟩ := hv
    have I1 : Inv X pins σ H { s with heap := h', toks := tk } := I.turned (fun b o hb e => kk b o (by simpa using hb) e) f0 f1 f3 f4 f5
    refine ⟨_, rfl, go_of (s := { s with heap := h', toks := tk }) (n := "range_iterator") st' rfl rfl (by decide) ⟨.int (lo + i), H, I1, ⟨t, ?_⟩, ⟨rfl, rfl⟩, st', fun b hb => (hf b hb).1⟩⟩
    rw [Int.mul_one]
  done := by
    intro X hP hw hK hc i pins s σ H E I hf st hg
    subst hP hw hK
    obtain ⟨f0, f1, f2, f3, f4, f5⟩ := hf it (by simp)
    exact wpAny_pyNext_range_end (I.ok.hd hc) st (by have : n ≤ i := hg; lia) fun h' eb => ⟨rfl, I.turned (t' := s.toks) (fun b o hb e => eb b o hb e) f0 f1 f3 f4 f5⟩
  self := fun _ _ _ _ _ st h => wpAny_pyIter_rangeiter st h
end L2
namespace L2
open PySem PySem.Spec PyProof.Rows
section
variable {X : Cx} {tg : Expr}
theorem range_it {pins : List (Addr × Obj)} {σ : St} {H : Hp} {s : Shared} {R : It → Hp → Prop} {E : Value → Shared → Prop} {lo hi : Int} {t u v : Tok} {tk : Nat} (I : Inv X pins σ H s) (h1 : -(2 ^ 62) ≤ lo) (h2 : lo < 2 ^ 62) (h3 : -(2 ^ 62) ≤ hi) (h4 : hi < 2 ^ 62)
    (q : R (Itr lo (hi - lo).toNat) H) : wpAny (model X.prog X.w) X.A (pyIter (.ref s.heap.objs.size)) (PIE X pins σ tg R) E { s with heap := s.heap.push { cls := .type "range", data := .fields #[.int lo t, .int hi u, .int 1 v] }, toks := tk } := by
  refine wpAny_pyIter_range (IsRange.new ..) (small_one h1 h2 h3 h4) ?_
  have I1 : Inv X pins σ H { s with heap := s.heap.push { cls := .type "range", data := .fields #[.int lo t, .int hi u, .int 1 v] }, toks := tk } := I.kept fun b o e => Heap.get?_push_of_some _ e
  refine ⟨(s.heap.push { cls := .type "range", data := .fields #[.int lo t, .int hi u, .int 1 v] }).objs.size, [(s.heap.push { cls := .type "range", data := .fields #[.int lo t, .int hi u, .int 1 v] }).objs.size], _, _, H, rfl,
    I1.kept (t' := tk) fun b o e => Heap.get?_push_of_some _ e, turn_range _ lo (hi - lo).toNat, ?_, fun b hb => ?_, q⟩
  · have e1 : lo + ((0 : Nat) : Int) * 1 = lo := by simp
    have e2 : (((hi - lo).toNat : Nat) : Int) - ((0 : Nat) : Int) = Builtin.Range.rangeSize lo hi 1 := by rw [rangeSize_one]; split <;> lia
    show IsRangeIter _ _ (lo + ((0 : Nat) : Int) * 1) ((((hi - lo).toNat : Nat) : Int) - ((0 : Nat) : Int)) 1
    rw [e1, e2]
    exact Heap.get?_push_size _ rfl
  · have e : b = (s.heap.push { cls := .type "range", data := .fields #[.int lo t, .int hi u, .int 1 v] }).objs.size := by simpa using hb
    subst e
    exact I1.fpOk (Nat.le_refl _) (I1.hok.fresh (Nat.le_refl _))
noncomputable def iRng1 (ta : TA) : TI := fun σ H R => ta σ H fun vs H1 => ∃ j : Int, vs = [.int j] ∧ -(2 ^ 62) ≤ j ∧ j < 2 ^ 62 ∧ R (Itr 0 j.toNat) H1
theorem pi_range1 {a : Expr} {ta : TA} {p pos : Pos} (hg : Gl X "range") (hm : X.mg "range" = none) (ha : PA X [a] ta) (hs : starEach [a] X.env = [(false, eval a X.env)] := by rfl) : PI X tg (.Call (.Name "range" p) [a] [] pos) (iRng1 ta) := by
  intro pins s σ H R I h
  refine Call_ (ld_blt I hg hm boot_range (PyProof.Rows.callWith_type1 (thn (ha pos pins s σ H _ I h) fun us s1 ⟨vs, H1, I1, r1, q1⟩ => ?_) hs rfl))
  obtain ⟨j, e, q1, q2, q⟩ := q1
  subst e
  cases r1 with
  | cons r rr =>
    cases rr
    obtain ⟨t, rfl⟩ := r
    exact call_range_1 (range_it I1 (by lia) (by lia) q1 q2 (by simpa using q))
noncomputable def tFor (wi : TI) (g : TG) (tb : TS) : TS := fun D σ H => wi σ H fun J H1 => ∃ W : Nat → Nat → St → Hp → Prop, (∃ m, W 0 m σ H1) ∧ ∀ i m σ H, W i m σ H →
  (J.stop i H ∧ D.nx σ H) ∨ (J.go i H ∧ ∃ N : St → Hp → Prop, (∀ σ' H', N σ' H' → ∃ m', m' < m ∧ W (i + 1) m' σ' H') ∧ ∀ x H', J.yld i H x H' → g x σ H' fun σ2 H2 => tb { D with nx := N, ct := N, bk := D.nx } σ2 H2)
noncomputable def pinsAt (fp : List Addr) (h : Heap) : List (Addr × Obj) := fp.filterMap fun b => (h.get? b).map fun o => (b, o)
theorem mem_pinsAt {fp : List Addr} {h : Heap} {b : Addr} {o : Obj} (hb : b ∈ fp) (e : h.get? b = some o) : (b, o) ∈ pinsAt fp h := List.mem_filterMap.mpr ⟨b, hb, by rw [e]; rfl⟩
theorem of_pinsAt {fp : List Addr} {h : Heap} {p : Addr × Obj} (hp : p ∈ pinsAt fp h) : p.1 ∈ fp ∧ h.get? p.1 = some p.2 := by
  obtain ⟨b, hb, e⟩ := List.mem_filterMap.mp hp
  cases q : h.get? b with
  | none => rw [q] at e; cases e
  | some o =>
    rw [q] at e
    have e' : (b, o) = p := Option.some.inj e
    subst e'
    exact ⟨hb, q⟩
theorem Inv.pinned {pins : List (Addr × Obj)} {σ : St} {H : Hp} {s : Shared} {fp : List Addr} (I : Inv X pins σ H s) (hf : ∀ b ∈ fp, FpOk X pins H b) (ho : ∀ b ∈ fp, ∃ o, s.heap.get? b = some o ∧ ∀ v, o.data ≠ .cell v) : Inv X (pins ++ pinsAt fp s.heap) σ H s :=
  I.pins_of fun p hp => (List.mem_append.mp hp).elim (fun z => I.pin p (List.mem_append_right _ z)) fun z => by
    obtain ⟨hb, e⟩ := of_pinsAt z
    obtain ⟨f0, f1, f2, _⟩ := hf p.1 hb
    obtain ⟨o, e', d⟩ := ho p.1 hb
    rw [e] at e'; cases e'
    exact ⟨e, f0, f1, f2, d⟩
theorem Inv.unpinned {pins pl : List (Addr × Obj)} {σ : St} {H : Hp} {s : Shared} (I : Inv X (pins ++ pl) σ H s) : Inv X pins σ H s := I.pins_of fun p hp => I.pin p (List.mem_append_right _ (List.mem_append_left _ hp))
theorem ps_for {iter : Expr} {body : List Stmt} {wi : TI} {g : TG} {tb : TS} {pos : Pos} (hp : PassesOwn (model X.prog X.w) X.A X.env X.xe) (hc : X.calm = true) (hi : PI X tg iter wi) (hg : PG X tg g) (hb : PSs X body tb)
    (hs : ∀ x, foldedSetIterable iter X.env x = pure x := by intro _; rfl) : PS X (.For tg iter body [] pos) (tFor wi g tb) := by
  intro pins s σ H D I h
  refine wpAny_For (thn (hi pins s σ H _ I h) fun v s1 h1 => thn h1 fun itv s2 h2 => ?_) hs
  obtain ⟨it, fp, tn, J, H2, e, I2, T, st2, f2, W, ⟨m0, w0⟩, turn⟩ := h2
  subst e
  -- what stays true of the iterator's objects through the loop
  have stat : ∀ {H' : Hp}, (∀ b ∈ fp, H' b = none) → ∀ b ∈ fp, FpOk X pins H' b := fun hn b hb => ⟨hn b hb, (f2 b hb).2⟩
  refine codeAny_forLoop_any (fun n s' => ∃ i σ' H', Inv X pins σ' H' s' ∧ tn i s'.heap ∧ (∀ b ∈ fp, H' b = none) ∧ W i n σ' H') ?_ m0 ⟨0, σ, H2, I2, st2, fun b hb => (f2 b hb).1, w0⟩
  rintro n s3 ⟨i, σ3, H3, I3, st3, fr3, w3⟩
  rcases turn i n σ3 H3 w3 with ⟨stop, qn⟩ | ⟨go, N, hN, step⟩
  · refine wpAny_passesOwn hp (thn (T.done X rfl rfl rfl hc i pins s3 σ3 H3 X.xe I3 (stat fr3) st3 stop) fun r s4 hh => ?_)
    obtain ⟨hr, I4⟩ := hh
    subst hr
    exact wpAny_execs_nil ⟨σ3, H3, I4, qn⟩
  · refine wpAny_passesOwn hp (thn (T.item X rfl rfl rfl hc i pins s3 σ3 H3 X.xe I3 (stat fr3) st3 go) fun r s4 hh => ?_)
    obtain ⟨u, hr, h4⟩ := hh
    subst hr
    refine wpAny_passesOwn hp (thn h4 fun _ s5 hh => ?_)
    obtain ⟨x, H5, I5, r5, y5, st5, fr5⟩ := hh
    have I5' := I5.pinned (stat fr5) (T.obj _ _ st5)
    refine wpAny_passesOwn hp (thn (hg _ s5 σ3 H5 x u _ I5' r5 (step x H5 y5)) fun _ s6 hh => ?_)
    obtain ⟨σ6, H6, I6, q6⟩ := hh
    refine wpAny_passesOwn hp (thn (hb _ s6 σ6 H6 _ I6 q6) fun f s7 q7 => ?_)
    have again : ∀ {σ7 : St} {H7 : Hp}, Inv X (pins ++ pinsAt fp s5.heap) σ7 H7 s7 → N σ7 H7 → ∃ m, m < n ∧ ∃ i σ' H', Inv X pins σ' H' s7 ∧ tn i s7.heap ∧ (∀ b ∈ fp, H' b = none) ∧ W i m σ' H' := fun {σ7 H7} I7 n7 => by
      obtain ⟨m', hm, w7⟩ := hN σ7 H7 n7
      refine ⟨m', hm, i + 1, σ7, H7, I7.unpinned, T.keep _ _ _ st5 fun b hb o e => (I7.pin (b, o) (List.mem_append_right _ (List.mem_append_right _ (mem_pinsAt hb e)))).1, fun b hb => ?_, w7⟩
      obtain ⟨o, e, d⟩ := T.obj _ _ st5 b hb
      exact (I7.pin (b, o) (List.mem_append_right _ (List.mem_append_right _ (mem_pinsAt hb e)))).2.1
    cases f with
    | next => obtain ⟨σ7, H7, I7, n7⟩ := q7; exact again I7 n7
    | cont => obtain ⟨σ7, H7, I7, n7⟩ := q7; exact again I7 n7
    | brk => obtain ⟨σ7, H7, I7, q7⟩ := q7; exact ⟨σ7, H7, I7.unpinned, q7⟩
    | ret v => obtain ⟨x7, σ7, H7, I7, r7, q7⟩ := q7; exact ⟨x7, σ7, H7, I7.unpinned, r7, q7⟩
end
theorem for_list {K : PySem.W.Frag} {a : Addr} {xs : List V} {g : TG} {tb : TS} {D : Ends} {σ : St} {H : Hp} (Pv : Nat → St → Hp → Prop) (h0 : Pv 0 σ H) (hl : ∀ i σ H, i ≤ xs.length → Pv i σ H → SqL K H a xs)
    (hs : ∀ i x σ H, xs[i]? = some x → Pv i σ H → g x σ H fun σ2 H2 => tb { D with nx := Pv (i + 1), ct := Pv (i + 1), bk := D.nx } σ2 H2) (hd : ∀ σ H, Pv xs.length σ H → D.nx σ H) :
    ∃ W : Nat → Nat → St → Hp → Prop, (∃ m, W 0 m σ H) ∧ ∀ i m σ H, W i m σ H →
      ((Itl K a).stop i H ∧ D.nx σ H) ∨ ((Itl K a).go i H ∧ ∃ N : St → Hp → Prop, (∀ σ' H', N σ' H' → ∃ m', m' < m ∧ W (i + 1) m' σ' H') ∧ ∀ x H', (Itl K a).yld i H x H' → g x σ H' fun σ2 H2 => tb { D with nx := N, ct := N, bk := D.nx } σ2 H2) := by
  refine ⟨fun i m σ H => m = xs.length - i ∧ i ≤ xs.length ∧ Pv i σ H, ⟨xs.length, by simp, Nat.zero_le _, h0⟩, ?_⟩
  rintro i m σ H ⟨rfl, hi, p⟩
  have q := hl i σ H hi p
  by_cases hlt : i < xs.length
  · refine .inr ⟨⟨xs, xs[i], q, by simp [hlt]⟩, Pv (i + 1), fun σ' H' p' => ⟨xs.length - (i + 1), by lia, rfl, hlt, p'⟩, fun x H' y => ?_⟩
    obtain ⟨e, y⟩ := y
    subst e
    exact hs i x σ _ (y xs q) p
  · have e : i = xs.length := by lia
    subst e
    exact .inl ⟨⟨xs, q, Nat.le_refl _⟩, hd σ H p⟩
theorem for_range {lo : Int} {n : Nat} {g : TG} {tb : TS} {D : Ends} {σ : St} {H : Hp} (Pv : Nat → St → Hp → Prop) (h0 : Pv 0 σ H)
    (hs : ∀ i σ H, i < n → Pv i σ H → g (.int (lo + i)) σ H fun σ2 H2 => tb { D with nx := Pv (i + 1), ct := Pv (i + 1), bk := D.nx } σ2 H2) (hd : ∀ σ H, Pv n σ H → D.nx σ H) :
    ∃ W : Nat → Nat → St → Hp → Prop, (∃ m, W 0 m σ H) ∧ ∀ i m σ H, W i m σ H →
      ((Itr lo n).stop i H ∧ D.nx σ H) ∨ ((Itr lo n).go i H ∧ ∃ N : St → Hp → Prop, (∀ σ' H', N σ' H' → ∃ m', m' < m ∧ W (i + 1) m' σ' H') ∧ ∀ x H', (Itr lo n).yld i H x H' → g x σ H' fun σ2 H2 => tb { D with nx := N, ct := N, bk := D.nx } σ2 H2) := by
  refine ⟨fun i m σ H => m = n - i ∧ i ≤ n ∧ Pv i σ H, ⟨n, by simp, Nat.zero_le _, h0⟩, ?_⟩
  rintro i m σ H ⟨rfl, hi, p⟩
  by_cases hlt : i < n
  · refine .inr ⟨hlt, Pv (i + 1), fun σ' H' p' => ⟨n - (i + 1), by lia, rfl, hlt, p'⟩, fun x H' y => ?_⟩
    obtain ⟨e, y⟩ := y
    subst e y
    exact hs i σ _ hlt p
  · have e : i = n := by lia
    subst e
    exact .inl ⟨Nat.le_refl _, hd σ H p⟩
end L2
namespace L2
open PySem PySem.Spec PyProof.Rows
noncomputable abbrev R2 := V → V → Hp → VK → Prop
noncomputable def OpR (X : Cx) (f : Value → Value → Sem Value) (r : R2) : Prop :=
  ∀ (pins : List (Addr × Obj)) (s : Shared) (σ : St) (H : Hp) (x y : V) (v u : Value) (Q : VK), Inv X pins σ H s → RelV x v → RelV y u → r x y H Q →
    wpAny (model X.prog X.w) X.A (f v u) (EP X pins σ Q) X.xe s
noncomputable def UnR (X : Cx) (f : Value → Sem Value) (r : V → Hp → VK → Prop) : Prop :=
  ∀ (pins : List (Addr × Obj)) (s : Shared) (σ : St) (H : Hp) (x : V) (v : Value) (Q : VK), Inv X pins σ H s → RelV x v → r x H Q →
    wpAny (model X.prog X.w) X.A (f v) (EP X pins σ Q) X.xe s
noncomputable def CallR (X : Cx) (f : Value) (r : List V → Hp → VK → Prop) : Prop :=
  ∀ (pins : List (Addr × Obj)) (s : Shared) (σ : St) (H : Hp) (xs : List V) (us : List Value) (Q : VK), Inv X pins σ H s → Vals xs us → r xs H Q →
    wpAny (model X.prog X.w) X.A (call f us) (EP X pins σ Q) X.xe s
noncomputable def TruR (X : Cx) (r : V → Hp → (Bool → Hp → Prop) → Prop) : Prop :=
  ∀ (pins : List (Addr × Obj)) (s : Shared) (σ : St) (H : Hp) (x : V) (v : Value) (Q : Bool → Hp → Prop), Inv X pins σ H s → RelV x v → r x H Q →
    wpAny (model X.prog X.w) X.A (truthy v) (TP X pins σ Q) X.xe s
noncomputable def tOp (r : R2) (ta tb : TE) : TE := fun σ H Q => ta σ H fun x H1 => tb σ H1 fun y H2 => r x y H2 Q
noncomputable def tUn (r : V → Hp → VK → Prop) (ta : TE) : TE := fun σ H Q => ta σ H fun x H1 => r x H1 Q
noncomputable def rI (C : Int → Int → Prop) (g : Int → Int → V) : R2 := fun x y H Q => ∃ i j, x = .int i ∧ y = .int j ∧ C i j ∧ Q (g i j) H
noncomputable def rI0 (g : Int → Int → V) : R2 := fun x y H Q => ∃ i j, x = .int i ∧ y = .int j ∧ Q (g i j) H
noncomputable def rU (g : Int → V) : V → Hp → VK → Prop := fun x H Q => ∃ i, x = .int i ∧ Q (g i) H
section
variable {X : Cx} {a b c : Expr} {ta tb tc : TE} {pos : Pos}
theorem binT (ha : PE X a ta) (hb : PE X b tb) {pins : List (Addr × Obj)} {s : Shared} {σ : St} {H : Hp} {R : V → V → Hp → Prop} (I : Inv X pins σ H s)
    (h : ta σ H fun x H1 => tb σ H1 fun y H2 => R x y H2) {Q : Value → Shared → Prop} {f : Value → Value → Sem Value}
    (hf : ∀ v u s2 x y H2, Inv X pins σ H2 s2 → RelV x v → RelV y u → R x y H2 → wpAny (model X.prog X.w) X.A (f v u) Q X.xe s2) :
    wpAny (model X.prog X.w) X.A (eval a X.env) (fun v s₁ => wpAny (model X.prog X.w) X.A (eval b X.env) (fun u s₂ => wpAny (model X.prog X.w) X.A (f v u) Q X.xe s₂) X.xe s₁) X.xe s := by
  refine thn (ha pins s σ H _ I h) fun v s1 hh => ?_
  obtain ⟨x, H1, I1, r1, q1⟩ := hh
  refine thn (hb pins s1 σ H1 _ I1 q1) fun u s2 hh => ?_
  obtain ⟨y, H2, I2, r2, q2⟩ := hh
  exact hf v u s2 x y H2 I2 r1 r2 q2
theorem pe_op {op : Operator} {r : R2} (ho : OpR X (binaryOp op) r) (ha : PE X a ta) (hb : PE X b tb) : PE X (.BinOp a op b pos) (tOp r ta tb) := by
  intro pins s σ H Q I h
  exact wpAny_BinOp (binT ha hb I h fun v u s2 x y H2 I2 rx ry q => ho pins s2 σ H2 x y v u Q I2 rx ry q)
theorem pe_un {op : UnaryOp} {r : V → Hp → VK → Prop} (ho : UnR X (unaryOp op) r) (ha : PE X a ta) : PE X (.UnaryOp op a pos) (tUn r ta) := by
  intro pins s σ H Q I h
  exact UnaryOp_ (thn (ha pins s σ H _ I h) fun v s1 ⟨x, H1, I1, r1, q1⟩ => ho pins s1 σ H1 x v Q I1 r1 q1)
theorem opI {f : Value → Value → Sem Value} {C : Int → Int → Prop} {g : Int → Int → Int}
    (rule : ∀ (i j : Int) (t u : Tok) (s : Shared) (Q : Value → Shared → Prop) (E : Value → Shared → Prop), C i j → Q (.int (g i j) s.toks) { s with toks := s.toks + 1 } → wpAny (model X.prog X.w) X.A (f (.int i t) (.int j u)) Q E s) :
    OpR X f (rI C fun i j => .int (g i j)) := by
  intro pins s σ H x y v u Q I rx ry h
  obtain ⟨i, j, rfl, rfl, hc, q⟩ := h
  obtain ⟨t, rfl⟩ := rx
  obtain ⟨t', rfl⟩ := ry
  exact rule i j t t' s _ _ hc ⟨.int (g i j), H, I.tok _, ⟨_, rfl⟩, q⟩
theorem opI0 {f : Value → Value → Sem Value} {g : Int → Int → Int}
    (rule : ∀ (i j : Int) (t u : Tok) (s : Shared) (Q : Value → Shared → Prop) (E : Value → Shared → Prop), Q (.int (g i j) s.toks) { s with toks := s.toks + 1 } → wpAny (model X.prog X.w) X.A (f (.int i t) (.int j u)) Q E s) :
    OpR X f (rI0 fun i j => .int (g i j)) := by
  intro pins s σ H x y v u Q I rx ry h
  obtain ⟨i, j, rfl, rfl, q⟩ := h
  obtain ⟨t, rfl⟩ := rx
  obtain ⟨t', rfl⟩ := ry
  exact rule i j t t' s _ _ ⟨.int (g i j), H, I.tok _, ⟨_, rfl⟩, q⟩
theorem opB0 {f : Value → Value → Sem Value} {g : Int → Int → Bool}
    (rule : ∀ (i j : Int) (t u : Tok) (s : Shared) (Q : Value → Shared → Prop) (E : Value → Shared → Prop), Q (.bool (g i j)) s → wpAny (model X.prog X.w) X.A (f (.int i t) (.int j u)) Q E s) :
    OpR X f (rI0 fun i j => .bl (g i j)) := by
  intro pins s σ H x y v u Q I rx ry h
  obtain ⟨i, j, rfl, rfl, q⟩ := h
  obtain ⟨t, rfl⟩ := rx
  obtain ⟨t', rfl⟩ := ry
  exact rule i j t t' s _ _ ⟨.bl (g i j), H, I, rfl, q⟩
noncomputable def CPow (i j : Int) : Prop := 0 ≤ j ∧ j ≤ 1000000 ∧ i.natAbs < 2 ^ 64
noncomputable def CMul (i j : Int) : Prop := (-(2 ^ 64) < i ∧ i < 2 ^ 64) ∨ (-(2 ^ 64) < j ∧ j < 2 ^ 64)
theorem CMul.ok {i j : Int} (h : CMul i j) : IntMulOk i j := by
  rcases h with ⟨h1, h2⟩ | ⟨h1, h2⟩
  · exact .of_left (intBits_le_64 h1 h2)
  · exact .of_right (intBits_le_64 h1 h2)
theorem op_add : OpR X (binaryOp .Add) (rI0 fun i j => .int (i + j)) := opI0 fun _ _ _ _ _ _ _ q => add_int q
theorem op_sub : OpR X (binaryOp .Sub) (rI0 fun i j => .int (i - j)) := opI0 fun _ _ _ _ _ _ _ q => sub_int q
theorem op_mul : OpR X (binaryOp .Mult) (rI CMul fun i j => .int (i * j)) := opI fun _ _ _ _ _ _ _ hc q => mul_int q hc.ok
theorem op_mod : OpR X (binaryOp .Mod) (rI (fun _ j => 0 < j) fun i j => .int (i % j)) := opI fun i j _ _ _ _ _ hc q => by
  have h1 : (0 : Int) < j := hc
  exact mod_int' (by lia) (by rw [Int.fmod_eq_emod_of_nonneg i (by lia)]; exact q)
theorem op_pow : OpR X (binaryOp .Pow) (rI CPow fun i j => .int (i ^ j.toNat)) := opI fun _ _ _ _ _ _ _ hc q => pow_int_small hc.1 hc.2.1 hc.2.2 q
theorem unI {f : Value → Sem Value} {g : Int → Int}
    (rule : ∀ (i : Int) (t : Tok) (s : Shared) (Q : Value → Shared → Prop) (E : Value → Shared → Prop), Q (.int (g i) s.toks) { s with toks := s.toks + 1 } → wpAny (model X.prog X.w) X.A (f (.int i t)) Q E s) :
    UnR X f (rU fun i => .int (g i)) := by
  intro pins s σ H x v Q I rx h
  obtain ⟨i, rfl, q⟩ := h
  obtain ⟨t, rfl⟩ := rx
  exact rule i t s _ _ ⟨.int (g i), H, I.tok _, ⟨_, rfl⟩, q⟩
theorem un_neg : UnR X (unaryOp .USub) (rU fun i => .int (-i)) := unI fun _ _ _ _ _ q => neg_int q
end
noncomputable def scal : V → V → Bool
  | .non, .non => true | .non, .int _ => true | .int _, .non => true | .non, .bl _ => true | .bl _, .non => true | .non, .str _ => true | .str _, .non => true
  | .int _, .int _ => true | .bl _, .bl _ => true | .str _, .str _ => true | .byt _, .byt _ => true
  | .int _, .str _ => true | .str _, .int _ => true | .bl _, .str _ => true | .str _, .bl _ => true
  | _, _ => false
noncomputable def rEq : R2 := fun x y H Q => scal x y = true ∧ Q (.bl (decide (x = y))) H
noncomputable def rNe : R2 := fun x y H Q => scal x y = true ∧ Q (.bl (!decide (x = y))) H
theorem dec_int {i j : Int} : decide (V.int i = V.int j) = (i == j) := by
  rw [Bool.eq_iff_iff]
  simp
theorem dec_bl {i j : Bool} : decide (V.bl i = V.bl j) = (i == j) := by
  rw [Bool.eq_iff_iff]
  simp
theorem dec_str {i j : Str} : decide (V.str i = V.str j) = (i == j) := by
  rw [Bool.eq_iff_iff]
  simp
theorem dec_byt {i j : Array UInt8} : decide (V.byt i = V.byt j) = (i.toList == j.toList) := by
  rw [Bool.eq_iff_iff]
  cases i
  cases j
  simp
section
variable {X : Cx} {a b c : Expr} {ta tb tc : TE} {pos : Pos}
theorem fin_bl {pins : List (Addr × Obj)} {σ : St} {H : Hp} {s : Shared} {Q : VK} {k k' : Bool} (I : Inv X pins σ H s) (q : Q (.bl k) H) (e : k = k') : EP X pins σ Q (.bool k') s := by
  subst e
  exact ⟨.bl k, H, I, rfl, q⟩
theorem op_eq : OpR X (compareOp .Eq) rEq := by
  intro pins s σ H x y v u Q I rx ry h
  obtain ⟨hs, q⟩ := h
  cases x with
  | non =>
    cases rx
    cases y with
    | non => cases ry; exact PySem.EqNone.eq_none_none (fin_bl I q (by simp))
    | bl j => cases ry; exact PySem.EqNone.eq_none_bool (fin_bl I q (by simp))
    | int j => obtain ⟨t', rfl⟩ := ry; exact PySem.EqNone.eq_none_int (fin_bl I q (by simp))
    | str j => obtain ⟨t', rfl⟩ := ry; exact PySem.EqNone.eq_none_str (fin_bl I q (by simp))
    | _ => exact absurd (show false = true from hs) Bool.false_ne_true
  | bl i =>
    cases rx
    cases y with
    | non => cases ry; exact PySem.EqNone.eq_bool_none (fin_bl I q (by simp))
    | bl j => cases ry; exact eq_bool (fin_bl I q dec_bl)
    | str j => obtain ⟨t', rfl⟩ := ry; exact PySem.EqMixed.eq_bool_str (fin_bl I q (by simp))
    | _ => exact absurd (show false = true from hs) Bool.false_ne_true
  | int i =>
    obtain ⟨t, rfl⟩ := rx
    cases y with
    | non => cases ry; exact PySem.EqNone.eq_int_none (fin_bl I q (by simp))
    | int j => obtain ⟨t', rfl⟩ := ry; exact eq_int (fin_bl I q dec_int)
    | str j => obtain ⟨t', rfl⟩ := ry; exact PySem.EqMixed.eq_int_str (fin_bl I q (by simp))
    | _ => exact absurd (show false = true from hs) Bool.false_ne_true
  | str i =>
    obtain ⟨t, rfl⟩ := rx
    cases y with
    | non => cases ry; exact PySem.EqNone.eq_str_none (fin_bl I q (by simp))
    | bl j => cases ry; exact PySem.EqMixed.eq_str_bool (fin_bl I q (by simp))
    | int j => obtain ⟨t', rfl⟩ := ry; exact PySem.EqMixed.eq_str_int (fin_bl I q (by simp))
    | str j => obtain ⟨t', rfl⟩ := ry; exact eq_str (fin_bl I q dec_str)
    | _ => exact absurd (show false = true from hs) Bool.false_ne_true
  | byt i =>
    obtain ⟨t, rfl⟩ := rx
    cases y with
    | byt j => obtain ⟨t', rfl⟩ := ry; exact PySem.W.eq_bytes (fin_bl I q dec_byt)
    | _ => exact absurd (show false = true from hs) Bool.false_ne_true
  | _ => cases y <;> exact absurd (show false = true from hs) Bool.false_ne_true
theorem op_ne : OpR X (compareOp .NotEq) rNe := by
  intro pins s σ H x y v u Q I rx ry h
  obtain ⟨hs, q⟩ := h
  cases x with
  | non =>
    cases rx
    cases y with
    | non => cases ry; exact PySem.EqNone.ne_none_none (fin_bl I q (by simp))
    | bl j => cases ry; exact PySem.EqNone.ne_none_bool (fin_bl I q (by simp))
    | int j => obtain ⟨t', rfl⟩ := ry; exact PySem.EqNone.ne_none_int (fin_bl I q (by simp))
    | str j => obtain ⟨t', rfl⟩ := ry; exact PySem.EqNone.ne_none_str (fin_bl I q (by simp))
    | _ => exact absurd (show false = true from hs) Bool.false_ne_true
  | bl i =>
    cases rx
    cases y with
    | non => cases ry; exact PySem.EqNone.ne_bool_none (fin_bl I q (by simp))
    | bl j => cases ry; exact ne_bool (fin_bl I q (congrArg not dec_bl))
    | str j => obtain ⟨t', rfl⟩ := ry; exact PySem.EqMixed.ne_bool_str (fin_bl I q (by simp))
    | _ => exact absurd (show false = true from hs) Bool.false_ne_true
  | int i =>
    obtain ⟨t, rfl⟩ := rx
    cases y with
    | non => cases ry; exact PySem.EqNone.ne_int_none (fin_bl I q (by simp))
    | int j => obtain ⟨t', rfl⟩ := ry; exact ne_int (fin_bl I q (congrArg not dec_int))
    | str j => obtain ⟨t', rfl⟩ := ry; exact PySem.EqMixed.ne_int_str (fin_bl I q (by simp))
    | _ => exact absurd (show false = true from hs) Bool.false_ne_true
  | str i =>
    obtain ⟨t, rfl⟩ := rx
    cases y with
    | non => cases ry; exact PySem.EqNone.ne_str_none (fin_bl I q (by simp))
    | bl j => cases ry; exact PySem.EqMixed.ne_str_bool (fin_bl I q (by simp))
    | int j => obtain ⟨t', rfl⟩ := ry; exact PySem.EqMixed.ne_str_int (fin_bl I q (by simp))
    | str j => obtain ⟨t', rfl⟩ := ry; exact ne_str (fin_bl I q (congrArg not dec_str))
    | _ => exact absurd (show false = true from hs) Bool.false_ne_true
  | byt i =>
    obtain ⟨t, rfl⟩ := rx
    cases y with
    | byt j => obtain ⟨t', rfl⟩ := ry; exact PySem.W.ne_bytes (fin_bl I q (congrArg not dec_byt))
    | _ => exact absurd (show false = true from hs) Bool.false_ne_true
  | _ => cases y <;> exact absurd (show false = true from hs) Bool.false_ne_true
theorem op_lt : OpR X (compareOp .Lt) (rI0 fun i j => .bl (decide (i < j))) := opB0 fun _ _ _ _ _ _ _ q => lt_int q
theorem op_le : OpR X (compareOp .LtE) (rI0 fun i j => .bl (decide (i ≤ j))) := opB0 fun _ _ _ _ _ _ _ q => le_int q
theorem op_gt : OpR X (compareOp .Gt) (rI0 fun i j => .bl (decide (j < i))) := opB0 fun _ _ _ _ _ _ _ q => gt_int q
theorem op_ge : OpR X (compareOp .GtE) (rI0 fun i j => .bl (decide (j ≤ i))) := opB0 fun _ _ _ _ _ _ _ q => ge_int q
theorem op_isN : OpR X (compareOp .Is) (fun x y H Q => y = .non ∧ Q (.bl (decide (x = .non))) H) := by
  intro pins s σ H x y v u Q I rx ry h
  obtain ⟨rfl, q⟩ := h
  cases ry
  refine is_none_gen (fin_bl I q ?_)
  cases x <;> first
    | (cases rx; rfl)
    | (obtain ⟨t, rfl⟩ := rx; rfl)
theorem op_notN : OpR X (compareOp .IsNot) (fun x y H Q => y = .non ∧ Q (.bl (!decide (x = .non))) H) := by
  intro pins s σ H x y v u Q I rx ry h
  obtain ⟨rfl, q⟩ := h
  cases ry
  refine isnot_none_gen (fin_bl I q ?_)
  cases x <;> first
    | (cases rx; rfl)
    | (obtain ⟨t, rfl⟩ := rx; rfl)
theorem nomark (b : Expr) {op : CmpOp} (h : op ≠ .In := by decide) (h2 : op ≠ .NotIn := by decide) : behindInMarks op b = false := by
  have e1 : (op == CmpOp.In) = false := by cases op <;> first | rfl | exact absurd rfl h
  have e2 : (op == CmpOp.NotIn) = false := by cases op <;> first | rfl | exact absurd rfl h2
  cases b <;> simp [behindInMarks, e1, e2]
theorem pe_cmpR {op : CmpOp} {r : R2} (ho : OpR X (compareOp op) r) (ha : PE X a ta) (hb : PE X b tb) (hm : behindInMarks op b = false) : PE X (.Compare a [op] [b] pos) (tOp r ta tb) := by
  intro pins s σ H Q I h
  exact wpAny_Compare1 (binT ha hb I h fun v u s2 x y H2 I2 rx ry q => ho pins s2 σ H2 x y v u Q I2 rx ry q) hm
noncomputable def tTest (t : TE) : TT := fun σ H Q => t σ H fun x H' => ∃ k, x = .bl k ∧ Q k H'
theorem pt_cmpR {op : CmpOp} {r : R2} (ho : OpR X (compareOp op) r) (ha : PE X a ta) (hb : PE X b tb) (hm : behindInMarks op b = false) : PT X (.Compare a [op] [b] pos) (tTest (tOp r ta tb)) := by
  intro pins s σ H Q I h
  refine wpAny_isTrue_Compare1 (thn (ha pins s σ H _ I h) fun v s1 ⟨x, H1, I1, r1, q1⟩ => thn (hb pins s1 σ H1 _ I1 q1) fun u s2 ⟨y, H2, I2, r2, q2⟩ =>
    thn (ho pins s2 σ H2 x y v u _ I2 r1 r2 q2) fun c s3 ⟨z, H3, I3, r3, k, e, q3⟩ => ?_) hm
  subst e
  cases r3
  exact wpAny_truthy_bool ⟨H3, I3, q3⟩
noncomputable def tChain (r r' : R2) (ta tb tc : TE) : TE := fun σ H Q => ta σ H fun x H1 => tb σ H1 fun y H2 => r x y H2 fun z H3 => ∃ k, z = .bl k ∧
  (if k = true then tc σ H3 fun w' H4 => r' y w' H4 Q else Q (.bl false) H3)
theorem pt_chain {op op' : CmpOp} {r r' : R2} (ho : OpR X (compareOp op) r) (ho' : OpR X (compareOp op') r') (ha : PE X a ta) (hb : PE X b tb) (hc : PE X c tc)
    (hm : lastMarks [op, op'] [b, c] = false := by with_unfolding_all rfl) : PT X (.Compare a [op, op'] [b, c] pos) (tTest (tChain r r' ta tb tc)) := by
  intro pins s σ H Q I h
  refine isTrue_chain (thn (ha pins s σ H _ I h) fun v s1 ⟨x, H1, I1, r1, q1⟩ => test_link (thn (hb pins s1 σ H1 _ I1 q1) fun u s2 ⟨y, H2, I2, r2, q2⟩ =>
    thn (ho pins s2 σ H2 x y v u _ I2 r1 r2 q2) fun d s3 ⟨z, H3, I3, r3, k, e, q3⟩ => ?_)) hm
  subst e
  cases r3
  refine wpAny_truthy_bool ?_
  cases k with
  | false =>
    obtain ⟨k', e', q'⟩ := q3
    cases e'
    exact ite_ff ⟨H3, I3, q'⟩
  | true =>
    refine ite_tt (test_last (thn (hc pins s3 σ H3 _ I3 q3) fun w' s4 hh => ?_))
    obtain ⟨z', H4, I4, r4, q4⟩ := hh
    refine thn (ho' pins s4 σ H4 y z' u w' _ I4 r2 r4 q4) fun d' s5 hh => ?_
    obtain ⟨z2, H5, I5, r5, k2, e2, q5⟩ := hh
    subst e2
    cases r5
    exact wpAny_truthy_bool ⟨H5, I5, q5⟩
noncomputable def TruV (K : PySem.W.Frag) (x : V) (H : Hp) (k : Bool) : Prop :=
  match x with
  | .non => k = false
  | .bl b => k = b
  | .int i => k = (i != 0)
  | .str y => y.length ≤ sizeLine ∧ k = ((y.length : Int) != 0)
  | .byt y => y.size ≤ sizeLine ∧ k = ((y.size : Int) != 0)
  | .ref p => (∃ xs, SqL K H p xs ∧ k = !xs.isEmpty) ∨ (∃ xs, SqT K H p xs ∧ k = !xs.isEmpty) ∨ ∃ kvs, H p = some (.dK kvs) ∧ k = !kvs.isEmpty
  | _ => False
theorem isEmpty_kv {κ : Type} {kvs : List (κ × V)} {vs : List (κ × Value)} (r : KV kvs vs) : (!vs.isEmpty) = !kvs.isEmpty := by
  cases r <;> rfl
theorem isEmpty_of {xs : List V} {its : List Value} (r : Vals xs its) : (!its.toArray.isEmpty) = !xs.isEmpty := by
  cases r <;> simp
theorem line63 : (sizeLine : Nat) < 2 ^ 63 := by rw [sizeLine_eq]; decide
theorem tru_ok : TruR X (fun x H Q => ∃ k, TruV X.K x H k ∧ Q k H) := by
  intro pins s σ H x v Q I rx h
  obtain ⟨k, e, q⟩ := h
  have hl := line63
  have hs : sizeLine = 16777216 := sizeLine_eq
  cases x with
  | non =>
    cases rx
    have e' : k = false := e
    subst e'
    exact truthy_none ⟨H, I, q⟩
  | bl b =>
    cases rx
    have e' : k = b := e
    subst e'
    exact wpAny_truthy_bool ⟨H, I, q⟩
  | int i =>
    obtain ⟨t, rfl⟩ := rx
    have e' : k = (i != 0) := e
    subst e'
    exact PySem.P.truthy_int ⟨H, I, q⟩
  | str y =>
    obtain ⟨t, rfl⟩ := rx
    obtain ⟨hy, e'⟩ : y.length ≤ sizeLine ∧ k = ((y.length : Int) != 0) := e
    subst e'
    exact PySem.P.truthy_str (by lia) ⟨H, I.tok _, q⟩
  | byt y =>
    obtain ⟨t, rfl⟩ := rx
    obtain ⟨hy, e'⟩ : y.size ≤ sizeLine ∧ k = ((y.size : Int) != 0) := e
    subst e'
    exact PySem.W.truthy_bytes (by lia) ⟨H, I.tok _, q⟩
  | ref p =>
    cases rx
    have e' : (∃ xs, SqL X.K H p xs ∧ k = !xs.isEmpty) ∨ (∃ xs, SqT X.K H p xs ∧ k = !xs.isEmpty) ∨ ∃ kvs, H p = some (.dK kvs) ∧ k = !kvs.isEmpty := e
    rcases e' with ⟨xs, hx, e'⟩ | ⟨xs, hx, e'⟩ | ⟨kvs, hx, e'⟩
    · subst e'
      obtain ⟨its, r, pl, hz⟩ := I.list hx
      have hlen := r.length
      exact wpAny_truthy_list pl.isList (by simp only [List.size_toArray]; lia) ⟨H, I.tok _, by rw [isEmpty_of r]; exact q⟩
    · subst e'
      obtain ⟨its, r, pl, hz⟩ := I.tuple hx
      have hlen := r.length
      exact truthy_tuple pl (by simp only [List.size_toArray]; lia) ⟨H, I.tok _, by rw [isEmpty_of r]; exact q⟩
    · subst e'
      obtain ⟨hz, hS, vs, r, m⟩ : kvs.length ≤ sizeLine ∧ (p == sysModules) = false ∧ ∃ vs, KV kvs vs ∧ s.heap.DictOf (mixKind X.prog X.w) p vs := I.hok p _ hx
      have hlen : kvs.length = vs.length := Paired.length r
      exact wpAny_truthy_dict hS m (by lia) ⟨H, I.tok _, by rw [isEmpty_kv r]; exact q⟩
  | _ => exact (show False from e).elim
theorem pt_truth (ha : PE X a ta) (he : ∀ whole, isTrue a X.env whole = (do let v ← whole; standAt a.pos; holding [v] (truthy v))) :
    PT X a (fun σ H Q => ta σ H fun x H' => ∃ k, TruV X.K x H' k ∧ Q k H') := by
  intro pins s σ H Q I h
  exact isTrue_plain (thn (ha pins s σ H _ I h) fun v s1 ⟨x, H1, I1, r1, q1⟩ => tru_ok pins s1 σ H1 x v Q I1 r1 q1) (he _)
theorem op_add_str : OpR X (binaryOp .Add) (fun x y H Q => ∃ i j, x = .str i ∧ y = .str j ∧ i.length + j.length ≤ sizeLine ∧ Q (.str (i ++ j)) H) := by
  intro pins s σ H x y v u Q I rx ry h
  obtain ⟨i, j, rfl, rfl, hz, q⟩ := h
  obtain ⟨t, rfl⟩ := rx
  obtain ⟨t', rfl⟩ := ry
  exact add_str (fun t' tk => ⟨.str (i ++ j), H, I.tok _, ⟨_, rfl⟩, q⟩) hz
theorem vals1 {x : V} {us : List Value} (r : Vals [x] us) : ∃ u, us = [u] ∧ RelV x u := by
  cases r with
  | cons r1 r2 => cases r2; exact ⟨_, rfl, r1⟩
theorem vals2 {x y : V} {us : List Value} (r : Vals [x, y] us) : ∃ u w', us = [u, w'] ∧ RelV x u ∧ RelV y w' := by
  cases r with
  | cons r1 r2 =>
    cases r2 with
    | cons r3 r4 => cases r4; exact ⟨_, _, rfl, r1, r3⟩
theorem call_min2 (hc : X.calm = true) : CallR X (.builtin "min") (fun xs H Q => ∃ i j, xs = [.int i, .int j] ∧ Q (.int (if j < i then j else i)) H) := by
  intro pins s σ H xs us Q I r h
  obtain ⟨i, j, rfl, q⟩ := h
  obtain ⟨u, w', rfl, ⟨t, rfl⟩, ⟨t', rfl⟩⟩ := vals2 r
  refine min_two_ints (I.ok.hd hc) fun h' tk k => ⟨_, H, I.kept k, ?_, q⟩
  by_cases hj : j < i
  · rw [if_pos hj, if_pos hj]; exact ⟨_, rfl⟩
  · rw [if_neg hj, if_neg hj]; exact ⟨_, rfl⟩
theorem call_int1 : CallR X (.type "int") (fun xs H Q => (∃ i, xs = [.int i] ∧ Q (.int i) H) ∨ ∃ k, xs = [.bl k] ∧ Q (.int (if k then 1 else 0)) H) := by
  intro pins s σ H xs us Q I r h
  rcases h with ⟨i, rfl, q⟩ | ⟨k, rfl, q⟩
  · obtain ⟨u, rfl, t, rfl⟩ := vals1 r
    exact call_int_int ⟨.int i, H, I, ⟨_, rfl⟩, q⟩
  · obtain ⟨u, rfl, r1⟩ := vals1 r
    cases r1
    exact call_int_bool ⟨.int (if k then 1 else 0), H, I.tok _, ⟨_, rfl⟩, q⟩
end
end L2
namespace L2
open PySem PySem.Spec PyProof.Rows
structure ObjM (h : Heap) (x dx C : Addr) (mA : Str → Option Value) : Prop where
  obj : h.get? x = some (PySem.W.instObj C dx)
  ns : h.Ns1 dx mA
  ne : dx ≠ x
theorem lookIn_ns {h : Heap} {dx : Addr} {mA : Str → Option Value} (n : h.Ns1 dx mA) : ∃ od, h.get? dx = some od ∧ ∀ name, PySem.W.lookIn name od = some (mA name) := by
  obtain ⟨o, es, ep, ho, hd, hk, _, hm⟩ := n
  refine ⟨o, ho, fun name => ?_⟩
  have e := hm name
  unfold nsFind findBy at e
  rw [← Array.find?_toList] at e
  unfold PySem.W.lookIn
  rw [hd]
  dsimp only
  split
  · rename_i y q
    rw [q] at e
    exact congrArg some e
  · rename_i q
    rw [q] at e
    have a : es.toList.any (·.refKey) = false := by
      rw [List.any_eq_false]
      intro y hy
      obtain ⟨z, t, hkey⟩ := hk y (Array.mem_toList_iff.mp hy)
      simp [DictEntry.refKey, hkey]
    have a' : ¬ es.toList.any (·.refKey) = true := by rw [a]; exact Bool.false_ne_true
    rw [if_neg a']
    exact congrArg some e
theorem ObjM.look {h : Heap} {x dx C : Addr} {mA : Str → Option Value} (I : ObjM h x dx C mA) : ∃ od, PySem.W.InstAt h x (PySem.W.instObj C dx) C (some od) ∧ ∀ name, PySem.W.lookIn name od = some (mA name) :=
  let ⟨od, ho, hl⟩ := lookIn_ns I.ns
  ⟨od, ⟨I.obj, rfl, rfl, ho⟩, hl⟩
section
variable {prog : Program} {w : World} {A : Around} {E : Value → Shared → Prop} {s : Shared} {K : PySem.W.Frag} {x dx C f : Addr} {mA : Str → Option Value} {name : Str} {v : Value}
end
theorem RelO.some_of {v : V} {o : Option Value} (r : RelO (some v) o) : ∃ u, o = some u ∧ RelV v u := by
  cases o with
  | none => exact (show False from r).elim
  | some u => exact ⟨u, rfl, r⟩
section
variable {P : Program} {w : World} {H H' : Hp} {h h' : Heap} {a C dx : Addr} {fs fs' : List (Str × V)}
theorem ins_get (hok : HOk P w H h) (e : H a = some (.ins C dx fs)) : ∃ mA, ObjM h a dx C mA ∧ (∀ f, RelO (fs.lookup f) (mA f)) ∧ PySem.Within mA (fs.map (·.1)) ∧ fs.length ≤ 1000 ∧ H dx = some (.own a) := by
  obtain ⟨d, z, ne, ob, mA, n, r, q⟩ := (show ObjOk P w H h a (.ins C dx fs) from hok a _ e)
  exact ⟨mA, ⟨ob, n, ne⟩, r, q, z, d⟩
end
structure Cls (K : PySem.W.Frag) (C : Addr) : Prop where
  pg : PySem.W.plainGet K C Str.empty = true
  hd : PySem.W.hasDictIn K C = true
  po : PySem.W.plainOver K C = true
  sa : PySem.W.findIn K (.ref C) "__setattr__" = some (some (.builtin "object.__setattr__"))
theorem Cls.get {K : PySem.W.Frag} {C : Addr} (c : Cls K C) (f : Str) : PySem.W.plainGet K C f = true := c.pg
section
variable {X : Cx} {pins : List (Addr × Obj)} {σ : St} {H : Hp} {s : Shared} {a C dx : Addr} {fs : List (Str × V)} {f : Str} {v : V} {A : Around} {E : Value → Shared → Prop}
end
section
variable {X : Cx} {o e value : Expr} {f : Str} {pos pos' tpos : Pos} {ta tv : TE}
noncomputable def rAdd : V → V → Hp → VK → Prop := fun x y H Q => ∃ i j, x = .int i ∧ y = .int j ∧ Q (.int (i + j)) H
noncomputable def rSub : V → V → Hp → VK → Prop := fun x y H Q => ∃ i j, x = .int i ∧ y = .int j ∧ Q (.int (i - j)) H
end
section
variable {X : Cx} {pins : List (Addr × Obj)} {σ : St} {H : Hp} {s : Shared} {A : Around} {E : Value → Shared → Prop} {Q : Value → Shared → Prop} {c : Value} {b : Bool}
inductive TyOf (K : PySem.W.Frag) (H : Hp) : V → Value → Prop where
  | non : TyOf K H .non (.type "NoneType")
  | bl (x : Bool) : TyOf K H (.bl x) (.type "bool")
  | int (i : Int) : TyOf K H (.int i) (.type "int")
  | str (x : Str) : TyOf K H (.str x) (.type "str")
  | flt (x : UInt64) : TyOf K H (.flt x) (.type "float")
  | lst {a : Addr} {xs : List V} (e : H a = some (.lst xs)) : TyOf K H (.ref a) (.type "list")
  | frz {a : Addr} {o : Obj} {xs : List V} (e : H a = some (.frz o (.lst xs))) : TyOf K H (.ref a) (.type "list")
  | tup {a : Addr} {xs : List V} (e : H a = some (.tup xs)) : TyOf K H (.ref a) (.type "tuple")
  | dK {a : Addr} {kvs : List (Key × V)} (e : H a = some (.dK kvs)) : TyOf K H (.ref a) (.type "dict")
  | dT {a : Addr} {kvs : List (List Key × V)} (e : H a = some (.dT kvs)) : TyOf K H (.ref a) (.type "dict")
  | ins {a C dx : Addr} {fs : List (Str × V)} (e : H a = some (.ins C dx fs)) (cl : Cls K C) (ha : PySem.W.findIn K (.ref C) "__class__" = some (some (.builtin "object.__class__")))
      (hn : PySem.W.specialIn K (.builtin "object.__class__") "__get__" = some (some (.builtin "getset_descriptor.__get__"))) (htk : PySem.W.takesIn K (.builtin "object.__class__") = some true)
      (hm : PySem.W.mroIn K C (.type "object") = some true) : TyOf K H (.ref a) (.ref C)
theorem isinst_ok {x : V} {u t : Value} (I : Inv X pins σ H s) (rx : RelV x u) (ty : TyOf X.K H x t) (e : PySem.W.kitOne X.K t c = some b) (h : ∀ tk, Q (.bool b) { s with toks := tk }) :
    wpAny (model X.prog X.w) A (call (.builtin "isinstance") [u, c]) Q E s := by
  cases ty with
  | non => cases (show u = Value.none from rx); exact PySem.W.kia_one PySem.W.kitx_none I.kIn True.intro e (fun z => nomatch z) h
  | bl y => cases (show u = Value.bool y from rx); exact PySem.W.kia_one PySem.W.kitx_bool I.kIn True.intro e (fun z => nomatch z) h
  | int i => obtain ⟨t, q⟩ := (show ∃ t, u = Value.int i t from rx); cases q; exact PySem.W.kia_one PySem.W.kitx_int I.kIn True.intro e (fun z => nomatch z) h
  | str y => obtain ⟨t, q⟩ := (show ∃ t, u = Value.str y t from rx); cases q; exact PySem.W.kia_one PySem.W.kitx_str I.kIn True.intro e (fun z => nomatch z) h
  | flt y => obtain ⟨t, q⟩ := (show ∃ t, u = Value.float y t from rx); cases q; exact PySem.W.kia_one PySem.W.kitx_float I.kIn True.intro e (fun z => nomatch z) h
  | @lst a xs ea =>
    cases (show u = Value.ref a from rx)
    obtain ⟨_, _, n, _, h1⟩ := (show ObjOk X.prog X.w H s.heap a (.lst xs) from I.hok a _ ea)
    exact PySem.W.kia_one PySem.W.kitx_list I.kIn ⟨_, h1, rfl⟩ e (fun z => nomatch z) h
  | @frz a ob xs ea =>
    cases (show u = Value.ref a from rx)
    obtain ⟨_, _, _, n, _, h1⟩ := (show ObjOk X.prog X.w H s.heap a (.frz ob (.lst xs)) from I.hok a _ ea)
    exact PySem.W.kia_one PySem.W.kitx_list I.kIn ⟨_, h1, rfl⟩ e (fun z => nomatch z) h
  | @tup a xs ea =>
    cases (show u = Value.ref a from rx)
    obtain ⟨_, _, _, p⟩ := (show ObjOk X.prog X.w H s.heap a (.tup xs) from I.hok a _ ea)
    obtain ⟨o, h1, h2, _⟩ := p
    exact PySem.W.kia_one PySem.W.kitx_tuple I.kIn ⟨o, h1, h2⟩ e (fun z => nomatch z) h
  | @dK a kvs ea =>
    cases (show u = Value.ref a from rx)
    obtain ⟨_, _, vs, _, p⟩ := (show ObjOk X.prog X.w H s.heap a (.dK kvs) from I.hok a _ ea)
    obtain ⟨o, es, ep, h1, h2, _⟩ := p
    exact PySem.W.kia_one PySem.W.kitx_dict I.kIn ⟨o, h1, h2.1⟩ e (fun z => nomatch z) h
  | @dT a kvs ea =>
    cases (show u = Value.ref a from rx)
    obtain ⟨_, _, xs, _, o, es, ep, h1, h2, _⟩ := (show ObjOk X.prog X.w H s.heap a (.dT kvs) from I.hok a _ ea)
    exact PySem.W.kia_one PySem.W.kitx_dict I.kIn ⟨o, h1, h2.1⟩ e (fun z => nomatch z) h
  | @ins a C dx fs ea cl ha hn htk hm =>
    cases (show u = Value.ref a from rx)
    obtain ⟨mA, O, _⟩ := ins_get I.hok ea
    obtain ⟨od, J, _⟩ := O.look
    exact PySem.W.kia_one (PySem.W.kitx_own (cl.get _) cl.hd ha hn htk hm) I.kIn J e (fun z => nomatch z) h
end
end L2
namespace L2
open PySem PySem.Spec PyProof.Rows
structure Room (k : Nat) (A : Around) : Prop where
  hd : A.handled = none
  dp : A.depth + 3 * k + 5 < recursionLimit
  un : A.units + 16 * k + 200 < cLine
  gd : A.guards = some [] := by rfl
theorem Room.mono {j k : Nat} {A : Around} (r : Room k A) (h : j ≤ k) : Room j A := ⟨r.hd, by have := r.dp; lia, by have := r.un; lia, r.gd⟩
theorem Room.deeper {k : Nat} {A : Around} (r : Room (k + 1) A) (env : Env) : Room k (A.deeper env) :=
  ⟨r.hd, by have := r.dp; show A.depth + 1 + 3 * k + 5 < _; lia, by have := r.un; show A.units + 3 + 16 * k + 200 < _; lia, r.gd⟩
theorem Room.depth {k : Nat} {A : Around} (r : Room k A) : A.depth < recursionLimit := by have := r.dp; lia
theorem Room.units {k : Nat} {A : Around} (r : Room k A) : A.units + 64 < cLine := by have := r.un; lia
noncomputable def tNil : TA := fun _ H Q => Q [] H
noncomputable def tCons (ta : TE) (tr : TA) : TA := fun σ H Q => ta σ H fun x H1 => tr σ H1 fun xs H2 => Q (x :: xs) H2
section
variable {X : Cx} {e : Expr} {es : List Expr} {te : TE} {t : TA} {pos : Pos}
theorem pa_nil : PA X [] tNil := fun _ _ _ _ H Q I h => Calls.spliced_nil ⟨[], H, I, .nil, h⟩
theorem pa_cons (ha : PE X e te) (hr : PA X es t) (hs : starEach (e :: es) X.env = (false, eval e X.env) :: starEach es X.env := by rfl) : PA X (e :: es) (tCons te t) := by
  intro pos pins s σ H Q I h
  rw [hs]
  show wpAny _ _ (spliced ((false, eval e X.env) :: backTo pos (starEach es X.env))) _ _ s
  refine Calls.spliced_cons (thn (ha pins s σ H _ I h) fun u s1 hh => ?_)
  obtain ⟨x, H1, I1, r1, q1⟩ := hh
  exact thn (hr pos pins s1 σ H1 _ I1 q1) fun us s2 ⟨xs, H2, I2, r2, q2⟩ => ⟨x :: xs, H2, I2, .cons r1 r2, q2⟩
end
noncomputable abbrev Sp := List V → Hp → VK → XK → Prop
noncomputable abbrev CXT := List Env → Hp → Shared → XK → Value → Shared → Prop
structure Env0 (P : Program) (w : World) (K : PySem.W.Frag) (mg : Str → Option Value) (base : Heap) (A : Around) (outer : List Env) (s : Shared) (H : Hp) : Prop where
  frames : A.frames = some outer
  mod : Mod K mg base
  bs : ∀ b o, base.get? b = some o → s.heap.get? b = some o ∧ H b = none
  bsz : base.objs.size ≤ s.heap.objs.size
  funs : s.heap.FunFrames base outer
  frf : ∀ b ∈ frs outer, H b = none
  hok : HOk P w H s.heap
  bare : AllBare s.gens
noncomputable def CE (outer : List Env) (P : Program) (w : World) (H : Hp) (s : Shared) (Q : VK) (u : Value) (s' : Shared) : Prop :=
  ∃ v H', s'.os = s.os ∧ AllBare s'.gens ∧ Un (frs outer) [] H H' s.heap s'.heap ∧ HOk P w H' s'.heap ∧ RelV v u ∧ Q v H'
noncomputable def CR (CX : CXT) (outer : List Env) (P : Program) (w : World) (H : Hp) (s : Shared) (Q : VK) (E : XK) (r : Result) (s' : Shared) : Prop :=
  match r with
  | .ok (.ret u) => CE outer P w H s Q u s'
  | .ok _ => False
  | .error e => CX outer H s E e s'
structure FnOk (P : Program) (w : World) (K : PySem.W.Frag) (mg : Str → Option Value) (base : Heap) (CX : CXT) (k : Nat) (f : Addr) (fd : FuncData) (ps : List Str) (sp : Sp) : Prop where
  len : ∀ vs H Q E, sp vs H Q E → vs.length = ps.length
  run : ∀ (A : Around) (outer : List Env) (s : Shared) (H : Hp) (args : Args) (us : List Value) (vs : List V) (Q : VK) (E : XK), Room k A → Env0 P w K mg base A outer s H → BindsTo s fd args (ps.zip us) → Vals vs us → sp vs H Q E →
    codeAny (model P w) A (.call (.ref f) args) (CR CX outer P w H s Q E) s
theorem FnOk.mono {P : Program} {w : World} {K : PySem.W.Frag} {mg : Str → Option Value} {base : Heap} {CX : CXT} {j k : Nat} {f : Addr} {fd : FuncData} {ps : List Str} {sp : Sp} (F : FnOk P w K mg base CX j f fd ps sp) (h : j ≤ k) :
    FnOk P w K mg base CX k f fd ps sp := ⟨F.len, fun A outer s H args us vs Q E hr => F.run A outer s H args us vs Q E (hr.mono h)⟩
section
variable {X : Cx} {pins : List (Addr × Obj)} {σ : St} {H : Hp} {s s' : Shared}
theorem Inv.env0 (I : Inv X pins σ H s) : Env0 X.prog X.w X.K X.mg X.base X.A X.stack s H :=
  ⟨I.ok.frames, I.ok.mod, I.bs, Nat.le_trans I.ok.bsz I.sz, I.stack, I.stkFree, I.hok, I.bare⟩
theorem Inv.after {Q : VK} {u : Value} (I : Inv X pins σ H s) (h : CE X.stack X.prog X.w H s Q u s') : EP X pins σ Q u s' := by
  obtain ⟨v, H', os, bare, un, hok, r, q⟩ := h
  obtain ⟨hh, g, d, t, os'⟩ := s'
  obtain rfl : os' = s.os := os
  exact ⟨v, H', I.call (h' := hh) (g' := g) (d' := d) (t' := t) (ch := []) un hok bare (fun b z => absurd z (by simp)), r, q⟩
end
noncomputable def tCall (sp : Sp) (dvs : List V) (E : XK) (t : TA) : TE := fun σ H Q => t σ H fun vs H1 => sp (vs ++ dvs) H1 Q E
noncomputable def Binds (K : PySem.W.Frag) (fd : FuncData) (ps : List Str) (ds : List Value) : Prop :=
  ∀ (s : Shared) (us : List Value), K.In s.heap → (us ++ ds).length = ps.length → BindsTo s fd ⟨us, []⟩ (ps.zip (us ++ ds))
theorem Binds.all {K : PySem.W.Frag} {fd : FuncData} {ps : List Str} (h : ∀ us : List Value, us.length = ps.length → bindArgs fd ⟨us, []⟩ = pure (ps.zip us)) : Binds K fd ps [] := fun s us _ hl => by
  rw [List.append_nil] at hl ⊢
  exact .of_eq (h us hl)
noncomputable def Passes (CX : CXT) (X : Cx) (E : XK) : Prop := ∀ (pins : List (Addr × Obj)) (σ : St) (H : Hp) (s : Shared) (e : Value) (s' : Shared), Inv X pins σ H s → CX X.stack H s E e s' → X.xe e s'
section
variable {X : Cx} {CX : CXT} {k : Nat} {f C : Addr} {fd : FuncData} {ps : List Str} {sp : Sp} {dvs : List V} {ds : List Value} {E : XK} {x m : Str} {p pos apos : Pos} {e o : Expr} {es : List Expr} {ta : TE} {t : TA}
theorem run_fn {pins : List (Addr × Obj)} {σ : St} {H : Hp} {s : Shared} {Q : VK} {us : List Value} {vs : List V} (F : FnOk X.prog X.w X.K X.mg X.base CX k f fd ps sp) (hr : Room k X.A) (hb : Binds X.K fd ps ds) (hd : Vals dvs ds) (hx : Passes CX X E)
    (I : Inv X pins σ H s) (r : Vals vs us) (h : sp (vs ++ dvs) H Q E) : wpAny (model X.prog X.w) X.A (call (.ref f) us) (EP X pins σ Q) X.xe s := by
  have r2 : Vals (vs ++ dvs) (us ++ ds) := r.append hd
  have hl : (us ++ ds).length = ps.length := by rw [← r2.length]; exact F.len _ _ _ _ h
  refine wpAny_call (codeAny_mono (F.run X.A X.stack s H ⟨us, []⟩ (us ++ ds) (vs ++ dvs) Q E hr I.env0 (hb s us I.kIn hl) r2 h) fun r s' hq => ?_)
  cases r with
  | error e => exact hx pins σ H s e s' I hq
  | ok fl =>
    cases fl with
    | ret u => exact I.after hq
    | next => exact False.elim hq
    | brk => exact False.elim hq
    | cont => exact False.elim hq
theorem pe_call (F : FnOk X.prog X.w X.K X.mg X.base CX k f fd ps sp) (hr : Room k X.A) (hg : Gl X x) (hm : X.mg x = some (.ref f)) (hk : PySem.W.keepIn X.K (.ref f) = true) (hb : Binds X.K fd ps ds) (hd : Vals dvs ds) (hx : Passes CX X E)
    (ha : PA X (e :: es) t) (hdb : (x == ("__debug__" : Str)) = false := by decide) (he : starEach (e :: es) X.env = (false, eval e X.env) :: starEach es X.env := by rfl) (hpl : (backTo pos (starEach es X.env)).any (·.1) = false := by rfl) :
    PE X (.Call (.Name x p) (e :: es) [] pos) (tCall sp dvs E t) := by
  intro pins s σ H Q I h
  refine wpAny_Call_Name_kw (ld_glob I hg hm ?_ hdb)
  refine PySem.W.callWith_K (h₀ := X.base) I.ok.mod.kin hk (thn (ha pos pins s σ H _ I h) fun us s1 ⟨vs, H1, I1, r, q⟩ => ⟨I1.kIn, ?_⟩) he hpl
  exact run_fn F hr hb hd hx I1 r q
end
section
variable {X : Cx} {CX : CXT} {k : Nat} {f C : Addr} {fd : FuncData} {ps ks : List Str} {sp : Sp} {E : XK} {x m : Str} {p pos apos kpos : Pos} {e o : Expr} {es : List Expr} {kws : List Keyword} {te ta : TE} {t tk : TA} {nm : Option Str}
variable {g : List Value → List Value → List Value} {gV : List V → List V → List V}
end
structure FnScope (N P : List Str) (sc : Scope) : Prop where
  kind : sc.kind = .function
  co : sc.isCoroutine = false
  gen : sc.isGenerator = false
  nd : N.Nodup
  pre : N.take P.length = P
  par : ∀ x ∈ P, sc.names.lookup x = some .local ∨ sc.names.lookup x = some .cell
  nofree : ∀ y ∈ sc.names, y.2 ≠ .free
theorem bindL_out {kindOf : Str → Option NameKind} {x : Str} : ∀ {binds : List (Str × Value)} {m : Str → Option Value}, (∀ v, (x, v) ∉ binds) → bindL kindOf binds m x = m x
  | [], _, _ => rfl
  | (n, v) :: r, m, h => by
    unfold bindL
    rw [bindL_out fun w hw => h w (List.mem_cons_of_mem _ hw)]
    split
    · have : x ≠ n := by rintro rfl; exact h v List.mem_cons_self
      simp [this]
    · rfl
theorem bindC_out {kindOf : Str → Option NameKind} {x : Str} : ∀ {binds : List (Str × Value)} {m : Str → Option Value}, (∀ v, (x, v) ∉ binds) → bindC kindOf binds m x = m x
  | [], _, _ => rfl
  | (n, v) :: r, m, h => by
    unfold bindC
    rw [bindC_out fun w hw => h w (List.mem_cons_of_mem _ hw)]
    split
    · rfl
    · have : x ≠ n := by rintro rfl; exact h v List.mem_cons_self
      simp [this]
theorem bindL_get {kindOf : Str → Option NameKind} {x : Str} {v : Value} : ∀ {P : List Str} {vs : List Value} {i : Nat} {m : Str → Option Value}, P.Nodup → P[i]? = some x → vs[i]? = some v → kindOf x = some .local →
    bindL kindOf (P.zip vs) m x = some v
  | [], _, _, _, _, h, _, _ => by simp at h
  | _ :: _, [], _, _, _, _, h, _ => by simp at h
  | p :: P, w :: vs, 0, m, nd, h1, h2, hk => by
    simp at h1 h2; subst h1; subst h2
    show bindL kindOf ((p, w) :: P.zip vs) m p = _
    unfold bindL
    rw [bindL_out fun v hv => (List.nodup_cons.mp nd).1 (List.of_mem_zip hv).1, if_pos hk]
    simp
  | p :: P, w :: vs, i + 1, m, nd, h1, h2, hk => by
    show bindL kindOf ((p, w) :: P.zip vs) m x = _
    unfold bindL
    exact bindL_get (i := i) (List.nodup_cons.mp nd).2 (by simpa using h1) (by simpa using h2) hk
theorem bindC_get {kindOf : Str → Option NameKind} {x : Str} {v : Value} : ∀ {P : List Str} {vs : List Value} {i : Nat} {m : Str → Option Value}, P.Nodup → P[i]? = some x → vs[i]? = some v → kindOf x ≠ some .local →
    bindC kindOf (P.zip vs) m x = some v
  | [], _, _, _, _, h, _, _ => by simp at h
  | _ :: _, [], _, _, _, _, h, _ => by simp at h
  | p :: P, w :: vs, 0, m, nd, h1, h2, hk => by
    simp at h1 h2; subst h1; subst h2
    show bindC kindOf ((p, w) :: P.zip vs) m p = _
    unfold bindC
    rw [bindC_out fun v hv => (List.nodup_cons.mp nd).1 (List.of_mem_zip hv).1, if_neg hk]
    simp
  | p :: P, w :: vs, i + 1, m, nd, h1, h2, hk => by
    show bindC kindOf ((p, w) :: P.zip vs) m x = _
    unfold bindC
    exact bindC_get (i := i) (List.nodup_cons.mp nd).2 (by simpa using h1) (by simpa using h2) hk
noncomputable def start (N : List Str) (vs : List V) : St := vs.map some ++ List.replicate (N.length - vs.length) none
noncomputable def cxOf (CX : CXT) (P : Program) (w : World) (K : PySem.W.Frag) (mg : Str → Option Value) (base : Heap) (N : List Str) (qual : Str) (scope : Scope) (f : Addr) (cd : Value) (A : Around) (outer : List Env) (s : Shared) (H : Hp) (E : XK) : Cx where
  prog := P
  w := w
  K := K
  mg := mg
  base := base
  A := A.deeper (envOfC qual scope s.heap.objs.size f cd)
  N := N
  s₀ := s
  H₀ := H
  env := envOfC qual scope s.heap.objs.size f cd
  outer := outer
  stack := envOfC qual scope s.heap.objs.size f cd :: outer
  ex := []
  calm := true
  fn := fun _ => true
  pn := []
  xe := fun e s' => wpAny (model P w) (A.deeper (envOfC qual scope s.heap.objs.size f cd)) (leaving (envOfC qual scope s.heap.objs.size f cd) e) (fun _ s'' => CX outer H s E e s'') (fun e' s'' => CX outer H s E e' s'') s'
theorem cell_has {sc : Scope} {n : Nat} {x : Str} (h : sc.names.lookup x = some .cell) : ∃ c, (cellsFrom n sc.names []).lookup x = some c := by
  have q := PySem.W.cellsFrom_some sc.names n [] (.inl h)
  exact Option.isSome_iff_exists.mp q
theorem inv_start {CX : CXT} {P : Program} {w : World} {K : PySem.W.Frag} {mg : Str → Option Value} {base : Heap} {N ps : List Str} {qual : Str} {scope : Scope} {f : Addr} {cd : Value} {A : Around} {outer : List Env} {s s1 : Shared} {H : Hp} {E : XK} {us : List Value} {vs : List V}
    (S : FnScope N ps scope) (hd : A.handled = none) (e0 : Env0 P w K mg base A outer s H) (hl : vs.length = ps.length) (r : Vals vs us)
    (x : InCallC s s.heap.objs.size (bindL (envOfC qual scope s.heap.objs.size f cd).kindOf (ps.zip us) fun _ => none) (cellsFrom (s.heap.objs.size + 1) scope.names []) (bindC (envOfC qual scope s.heap.objs.size f cd).kindOf (ps.zip us) fun _ => none) s1) :
    Inv (cxOf CX P w K mg base N qual scope f cd A outer s H E) [] (start N vs) H s1 := by
  have hpl : ps.length ≤ N.length := by have := congrArg List.length S.pre; rw [List.length_take] at this; lia
  obtain ⟨h1, tk, rfl, hk⟩ := x.done
  have noA : ∀ b : Addr, b ∉ (cxOf CX P w K mg base N qual scope f cd A outer s H E).ex := fun b z => absurd (show b ∈ ([] : List Addr) from z) (by simp)
  refine ⟨⟨e0.mod, S.kind, rfl, rfl, Nat.le_refl _, fun y z c h1 h2 => ?_, fun y hy => ?_, fun y c _ h => ?_, fun _ => hd, Around.frames_deeper e0.frames, .inr ⟨rfl, rfl⟩, fun b z => absurd z (noA b), e0.bs, e0.bsz, fun b _ _ => noA b, fun b z => absurd z (noA b), e0.funs, e0.frf⟩,
    rfl, e0.bare, Un.kept hk, ⟨_, x.toInCall.ns, fun i y v h1 h2 h3 => ?_⟩, fun y c h => ⟨_, x.cell y c h⟩, e0.hok.fresh (Nat.le_refl _), fun y c h => ?_, fun p hp => absurd (show p ∈ ([] : List (Addr × Obj)) from hp) (by simp), e0.hok.kept hk, ?_⟩
  · exact name_of_addr x.apart (PySem.mem_of_lookup h1) (PySem.mem_of_lookup h2)
  · have hy : scope.names.lookup y = some .cell ∨ scope.names.lookup y = some .free := hy
    rcases hy with hy | hy
    · exact cell_has hy
    · exact absurd rfl (S.nofree _ (PySem.mem_of_lookup hy))
  · exact Nat.le_of_lt (x.above y c (PySem.mem_of_lookup h))
  · have hi : i < vs.length := by
      unfold start at h2
      by_cases hi : i < vs.length
      · exact hi
      · rw [List.getElem?_append_right (by simpa using hi)] at h2
        rw [List.getElem?_replicate] at h2
        split at h2 <;> cases h2
    have ha : vs[i]? = some v := by
      unfold start at h2
      rw [List.getElem?_append_left (by simpa using hi), List.getElem?_map] at h2
      cases e : vs[i]? with
      | none => rw [e] at h2; cases h2
      | some a => rw [e] at h2; cases h2; rfl
    obtain ⟨u, hu, rv⟩ := r.get ha
    have hp : ps[i]? = some y := by
      rw [← S.pre, List.getElem?_take_of_lt (by lia)]; exact h1
    have ndP : ps.Nodup := by rw [← S.pre]; exact S.nd.sublist (List.take_sublist _ _)
    refine ⟨u, rv, ?_⟩
    rcases S.par y (List.mem_of_getElem? hp) with k | k
    · exact .inl ⟨k, bindL_get ndP hp hu k⟩
    · obtain ⟨c, e⟩ := cell_has (n := s.heap.objs.size + 1) k
      refine .inr ⟨.inl k, c, e, ?_⟩
      have q := x.cell y c e
      rw [bindC_get ndP hp hu (by show scope.names.lookup y ≠ _; rw [k]; decide)] at q
      exact q
  · exact e0.hok.fresh (Nat.le_of_lt (x.above y c (PySem.mem_of_lookup h)))
  · unfold start
    show _ = N.length
    rw [List.length_append, List.length_map, List.length_replicate]
    lia
theorem fn_of {CX : CXT} {P : Program} {w : World} {K : PySem.W.Frag} {mg : Str → Option Value} {base : Heap} {k : Nat} {f : Addr} {name qual : Str} {params : Arguments} {body : List Stmt} {scope : Scope} {dV kV doc pm cdv ct oc : Value} {an od : Option Addr}
    {osl : Array (Option Value)} {N ps : List Str} {sp : Sp} (lk : K.lookup f = some ⟨oc, od, .func (PySem.W.fnOf name qual params body scope dV kV doc pm an cdv ct), osl⟩) (hcd : PySem.W.codeIn K cdv qual = true) (S : FnScope N ps scope)
    (len : ∀ vs H Q E, sp vs H Q E → vs.length = ps.length)
    (hbody : ∀ (A : Around) (outer : List Env) (s : Shared) (H : Hp) (vs : List V) (Q : VK) (E : XK), Room k (A.deeper (envOfC qual scope s.heap.objs.size f cdv)) → sp vs H Q E →
      ∃ t, PSs (cxOf CX P w K mg base N qual scope f cdv A outer s H E) body t ∧ t { nx := fun _ H' => Q .non H', rt := Q } (start N vs) H) :
    FnOk P w K mg base CX (k + 1) f (PySem.W.fnOf name qual params body scope dV kV doc pm an cdv ct) ps sp := by
  refine ⟨len, fun A outer s H args us vs Q E hr e0 hb r hsp => ?_⟩
  have hl := len _ _ _ _ hsp
  have KX : K.In s.heap := e0.mod.kin.keeps fun b o e => (e0.bs b o e).1
  have lim : s.heap.NoLimit := e0.mod.nolimit.keeps fun b o e => (e0.bs b o e).1
  have hkind : ∀ y ∈ ps.zip us, scope.names.lookup y.1 = some .local ∨ (scope.names.lookup y.1 = some .cell ∧ ((cellsFrom (s.heap.objs.size + 1) scope.names []).lookup y.1).isSome = true) := fun ⟨n, v⟩ hy => by
    rcases S.par n (List.of_mem_zip hy).1 with q | q
    · exact .inl q
    · exact .inr ⟨q, PySem.W.cellsFrom_some _ _ _ (.inl q)⟩
  refine codeAny_call_function hr.depth (KX _ _ lk) rfl S.co S.gen rfl (PySem.W.codeRec_of KX hcd) (hb _ _ _ _ ?_)
  refine wpAny_newFunctionEnv_cells S.kind hkind fun env he s1 x => ?_
  subst he
  refine ⟨lim.keeps x.toInCall.keep, codeAny_func ?_⟩
  obtain ⟨t, ht, hq⟩ := hbody A outer s H vs Q E (hr.deeper _) hsp
  have I : Inv (cxOf CX P w K mg base N qual scope f cdv A outer s H E) [] (start N vs) H s1 := inv_start S hr.hd e0 hl r x
  refine wpAny_mono (ht [] s1 (start N vs) H _ I hq) (fun fl s' hs => ?_) fun e s' hs => hs
  have fin : ∀ {σ' : St} {H' : Hp} {v : V} {u : Value}, Inv (cxOf CX P w K mg base N qual scope f cdv A outer s H E) [] σ' H' s' → RelV v u → Q v H' → CE outer P w H s Q u s' :=
    fun {σ' H' v u} J rv q => ⟨v, H', J.os, J.bare, J.base, J.hok, rv, q⟩
  cases fl with
  | ret u =>
    obtain ⟨v, σ', H', J, rv, q⟩ := hs
    exact fin J rv q
  | next =>
    obtain ⟨σ', H', J, q⟩ := hs
    exact fin (v := V.non) (u := Value.none) J rfl q
  | brk =>
    obtain ⟨_, _, _, q⟩ := hs
    exact False.elim q
  | cont =>
    obtain ⟨_, _, _, q⟩ := hs
    exact False.elim q
end L2
namespace L2
open PySem PySem.Spec PyProof.Rows
section
variable {X : Cx} {x : Str} {p pos : Pos} {e : Expr} {es : List Expr} {t : TA} {id T : String} {r : List V → Hp → VK → Prop}
noncomputable def tCB (r : List V → Hp → VK → Prop) (t : TA) : TE := fun σ H Q => t σ H fun vs H1 => r vs H1 Q
theorem pe_callB (hc : CallR X (.builtin id) r) (hg : Gl X x) (hm : X.mg x = none) (hv : bootBuiltins x = some (.builtin id)) (ha : PA X (e :: es) t) (hn : x ≠ "__name__" := by decide) (hdb : (x == ("__debug__" : Str)) = false := by decide)
    (he : starEach (e :: es) X.env = (false, eval e X.env) :: starEach es X.env := by rfl) (hpl : (backTo pos (starEach es X.env)).any (·.1) = false := by rfl) : PE X (.Call (.Name x p) (e :: es) [] pos) (tCB r t) := by
  intro pins s σ H Q I h
  refine wpAny_Call_Name_kw (ld_blt I hg hm hv ?_ hn hdb)
  exact PyProof.Rows.callWith_builtin1 (thn (ha pos pins s σ H _ I h) fun us s1 ⟨vs, H1, I1, r1, q1⟩ => hc pins s1 σ H1 vs us Q I1 r1 q1) he hpl
theorem pe_callTy (hc : CallR X (.type T) r) (hg : Gl X x) (hm : X.mg x = none) (hv : bootBuiltins x = some (.type T)) (ha : PA X (e :: es) t) (hn : x ≠ "__name__" := by decide) (hdb : (x == ("__debug__" : Str)) = false := by decide)
    (he : starEach (e :: es) X.env = (false, eval e X.env) :: starEach es X.env := by rfl) (hpl : (backTo pos (starEach es X.env)).any (·.1) = false := by rfl) : PE X (.Call (.Name x p) (e :: es) [] pos) (tCB r t) := by
  intro pins s σ H Q I h
  refine wpAny_Call_Name_kw (ld_blt I hg hm hv ?_ hn hdb)
  exact PyProof.Rows.callWith_type1 (thn (ha pos pins s σ H _ I h) fun us s1 ⟨vs, H1, I1, r1, q1⟩ => hc pins s1 σ H1 vs us Q I1 r1 q1) he hpl
end
end L2
namespace L2
open PySem PySem.Spec PyProof.Rows
section
variable {κ : Type} [DecidableEq κ]
noncomputable def valV (kvs : List (κ × V)) (k : κ) : Option V := (kvs.find? fun kv => decide (kv.1 = k)).map (·.2)
noncomputable def putK (kvs : List (κ × V)) (k : κ) (v : V) : List (κ × V) :=
  if (kvs.any fun kv => decide (kv.1 = k)) = true then kvs.map (fun kv => if kv.1 = k then (kv.1, v) else kv) else kvs ++ [(k, v)]
noncomputable def dropK (kvs : List (κ × V)) (k : κ) : List (κ × V) := kvs.filter fun kv => decide (kv.1 ≠ k)
theorem valV_pos {p : κ × V} {r : List (κ × V)} {k : κ} (e : p.1 = k) : valV (p :: r) k = some p.2 := by simp [valV, List.find?_cons, e]
theorem valV_neg {p : κ × V} {r : List (κ × V)} {k : κ} (e : ¬ p.1 = k) : valV (p :: r) k = valV r k := by simp [valV, List.find?_cons, e]
theorem valV_any (k : κ) : ∀ kvs : List (κ × V), (kvs.any fun kv => decide (kv.1 = k)) = (valV kvs k).isSome
  | [] => rfl
  | p :: r => by
    rw [List.any_cons]
    by_cases e : p.1 = k
    · simp only [valV_pos e, decide_eq_true e, Bool.true_or, Option.isSome_some]
    · rw [valV_neg e, decide_eq_false e, Bool.false_or]; exact valV_any k r
theorem length_putK (kvs : List (κ × V)) (k : κ) (v : V) : (putK kvs k v).length ≤ kvs.length + 1 := by
  unfold putK
  split
  · rw [List.length_map]; lia
  · rw [List.length_append, List.length_cons, List.length_nil]; lia
theorem putK_new {kvs : List (κ × V)} {k : κ} (v : V) (h : valV kvs k = none) : putK kvs k v = kvs ++ [(k, v)] := by
  unfold putK
  rw [valV_any, h]
  exact if_neg (by decide)
theorem RelO.isSome_eq {o : Option V} {u : Option Value} (r : RelO o u) : o.isSome = u.isSome := by
  cases o with
  | none => cases u with
    | none => rfl
    | some _ => exact (show False from r).elim
  | some _ => cases u with
    | none => exact (show False from r).elim
    | some _ => rfl
theorem RelO.getD {o : Option V} {u : Option Value} {d : V} {d' : Value} (r : RelO o u) (rd : RelV d d') : RelV (o.getD d) (u.getD d') := by
  cases o with
  | none => cases u with
    | none => exact rd
    | some _ => exact (show False from r).elim
  | some _ => cases u with
    | none => exact (show False from r).elim
    | some _ => exact r
theorem KV.val {kvs : List (κ × V)} {vs : List (κ × Value)} (r : KV kvs vs) (k : κ) : RelO (valV kvs k) (valueAt vs k) := by
  unfold KV at r
  induction r with
  | nil => exact True.intro
  | @cons p q ps qs h t ih =>
    obtain ⟨h1, h2⟩ := h
    by_cases e : p.1 = k
    · have e' : q.1 = k := h1.symm.trans e
      have b : valueAt (q :: qs) k = some q.2 := by simp [valueAt, List.find?_cons, e']
      rw [valV_pos e, b]; exact h2
    · have e' : ¬ q.1 = k := fun z => e (h1.trans z)
      have b : valueAt (q :: qs) k = valueAt qs k := by simp [valueAt, List.find?_cons, e']
      rw [valV_neg e, b]; exact ih
theorem KV.any {kvs : List (κ × V)} {vs : List (κ × Value)} (r : KV kvs vs) (k : κ) : (kvs.any fun kv => decide (kv.1 = k)) = vs.any fun kv => decide (kv.1 = k) := by
  unfold KV at r
  induction r with
  | nil => rfl
  | cons h t ih => rw [List.any_cons, List.any_cons, ih, h.1]
theorem KV.repl {kvs : List (κ × V)} {vs : List (κ × Value)} (r : KV kvs vs) (k : κ) {y : V} {u : Value} (ry : RelV y u) :
    KV (kvs.map fun kv => if kv.1 = k then (kv.1, y) else kv) (vs.map fun kv => if kv.1 = k then (kv.1, u) else kv) := by
  unfold KV at r ⊢
  induction r with
  | nil => exact .nil
  | @cons p q ps qs h t ih =>
    rw [List.map_cons, List.map_cons]
    refine .cons ?_ ih
    obtain ⟨h1, h2⟩ := h
    by_cases e : p.1 = k
    · rw [if_pos e, if_pos (h1.symm.trans e)]; exact ⟨h1, ry⟩
    · rw [if_neg e, if_neg (fun z => e (h1.trans z))]; exact ⟨h1, h2⟩
theorem KV.put {kvs : List (κ × V)} {vs : List (κ × Value)} (r : KV kvs vs) (k : κ) {y : V} {u : Value} (ry : RelV y u) : KV (putK kvs k y) (stored vs k u) := by
  unfold putK stored
  rw [r.any k]
  by_cases e : (vs.any fun kv => decide (kv.1 = k)) = true
  · rw [if_pos e, if_pos e]; exact r.repl k ry
  · rw [if_neg e, if_neg e]; exact Paired.snoc r ⟨rfl, ry⟩
theorem KV.drop {kvs : List (κ × V)} {vs : List (κ × Value)} (r : KV kvs vs) (k : κ) : KV (dropK kvs k) (without vs k) := by
  unfold KV at r ⊢
  unfold dropK without
  induction r with
  | nil => exact .nil
  | @cons p q ps qs h t ih =>
    obtain ⟨h1, h2⟩ := h
    rw [List.filter_cons, List.filter_cons]
    by_cases e : p.1 = k
    · have a : ¬ decide (p.1 ≠ k) = true := by simp [e]
      have b : ¬ decide (q.1 ≠ k) = true := by simp [h1.symm.trans e]
      rw [if_neg a, if_neg b]; exact ih
    · have e' : ¬ q.1 = k := fun z => e (h1.trans z)
      have a : decide (p.1 ≠ k) = true := by simp [e]
      have b : decide (q.1 ≠ k) = true := by simp [e']
      rw [if_pos a, if_pos b]; exact .cons ⟨h1, h2⟩ ih
theorem KV.keys {kvs : List (κ × V)} {vs : List (κ × Value)} (r : KV kvs vs) : kvs.map (·.1) = vs.map (·.1) := by
  unfold KV at r
  induction r with
  | nil => rfl
  | cons h t ih => rw [List.map_cons, List.map_cons, ih, h.1]
theorem KV.length {kvs : List (κ × V)} {vs : List (κ × Value)} (r : KV kvs vs) : kvs.length = vs.length := Paired.length r
theorem dropK_le (kvs : List (κ × V)) (k : κ) : (dropK kvs k).length ≤ kvs.length := List.length_filter_le _ _
end
theorem kV_is {P : Program} {w : World} {k : Key} {u : Value} (r : RelV (kV k) u) : (mixKind P w).is k u = true := by
  cases k with
  | inl i => obtain ⟨t, e⟩ := (show ∃ t, u = Value.int i t from r); subst e; exact mixKind_int P w i t
  | inr x => obtain ⟨t, e⟩ := (show ∃ t, u = Value.str x t from r); subst e; exact mixKind_str P w x t
theorem items_are {P : Program} {w : World} : ∀ {ks : List Key} {us : List Value}, Vals (ks.map kV) us → ItemsAre (mixKind P w) ks us
  | [], _, r => by rw [List.map_nil] at r; cases r; exact .nil
  | k :: ks, _, r => by
    rw [List.map_cons] at r
    cases r with
    | cons h t => exact .cons (kV_is h) (items_are t)
noncomputable abbrev KT (H : Hp) : List (List Key × V) → List (List Key × Addr × Value) → Prop := Paired fun p q => p.1 = q.1 ∧ H q.2.1 = some (.tup (p.1.map kV)) ∧ RelV p.2 q.2.2
theorem KT.val {H : Hp} {kvs : List (List Key × V)} {xs : List (List Key × Addr × Value)} (r : KT H kvs xs) (k : List Key) : RelO (valV kvs k) ((atKey xs k).map (·.2)) := by
  induction r with
  | nil => exact True.intro
  | @cons p q ps qs h t ih =>
    obtain ⟨h1, _, h2⟩ := h
    by_cases e : p.1 = k
    · have e' : q.1 = k := h1.symm.trans e
      have b : atKey (q :: qs) k = some q.2 := by simp [atKey, List.find?_cons, e']
      rw [valV_pos e, b]; exact h2
    · have e' : ¬ q.1 = k := fun z => e (h1.trans z)
      have b : atKey (q :: qs) k = atKey qs k := by simp [atKey, List.find?_cons, e']
      rw [valV_neg e, b]; exact ih
theorem KT.repl {H : Hp} {kvs : List (List Key × V)} {xs : List (List Key × Addr × Value)} (r : KT H kvs xs) (k : List Key) {y : V} {u : Value} (ry : RelV y u) :
    KT H (kvs.map fun kv => if kv.1 = k then (kv.1, y) else kv) (xs.map (putAt k u)) := by
  induction r with
  | nil => exact .nil
  | @cons p q ps qs h t ih =>
    rw [List.map_cons, List.map_cons]
    refine .cons ?_ ih
    obtain ⟨h1, h2, h3⟩ := h
    unfold putAt
    by_cases e : p.1 = k
    · rw [if_pos e, if_pos (h1.symm.trans e)]; exact ⟨h1, h2, ry⟩
    · rw [if_neg e, if_neg (fun z => e (h1.trans z))]; exact ⟨h1, h2, h3⟩
theorem KT.put {H : Hp} {kvs : List (List Key × V)} {xs : List (List Key × Addr × Value)} (r : KT H kvs xs) (k : List Key) {b : Addr} {y : V} {u : Value} (hb : H b = some (.tup (k.map kV))) (ry : RelV y u) :
    KT H (putK kvs k y) (storedH xs k b u) := by
  have e : (kvs.any fun kv => decide (kv.1 = k)) = (atKey xs k).isSome := by
    rw [valV_any, (r.val k).isSome_eq, Option.isSome_map]
  unfold putK storedH
  rw [e]
  by_cases q : (atKey xs k).isSome = true
  · rw [if_pos q, if_pos q]; exact r.repl k ry
  · rw [if_neg q, if_neg q]; exact Paired.snoc r ⟨rfl, hb, ry⟩
theorem KT.keeps {H H' : Hp} {kvs : List (List Key × V)} {xs : List (List Key × Addr × Value)} (r : KT H kvs xs) (ht : ∀ b ys, H b = some (.tup ys) → H' b = some (.tup ys)) : KT H' kvs xs :=
  Paired.mapP r fun _ _ z => ⟨z.1, ht _ _ z.2.1, z.2.2⟩
section
variable {P : Program} {w : World} {H : Hp} {h : Heap} {a : Addr}
theorem rd_of {u : HO} (ok : HOk P w H h) (e : Rd H a u) : ObjOk P w H h a u := e.ok ok
theorem dk_rd {kvs : List (Key × V)} (ok : HOk P w H h) (e : Rd H a (.dK kvs)) : kvs.length ≤ sizeLine ∧ (a == sysModules) = false ∧ ∃ vs, KV kvs vs ∧ h.DictOf (mixKind P w) a vs :=
  show ObjOk P w H h a (.dK kvs) from rd_of ok e
theorem dk_of {kvs : List (Key × V)} (ok : HOk P w H h) (e : H a = some (.dK kvs)) : kvs.length ≤ sizeLine ∧ (a == sysModules) = false ∧ ∃ vs, KV kvs vs ∧ h.DictOf (mixKind P w) a vs := dk_rd ok (.inl e)
theorem key_of {ks : List Key} (ok : HOk P w H h) (e : H a = some (.tup (ks.map kV))) : (tupleKind (mixKind P w)).is h ks a := by
  obtain ⟨_, its, r, o, h1, h2, n, h3⟩ := (show ObjOk P w H h a (.tup (ks.map kV)) from ok a _ e)
  exact ⟨o, its.toArray, n, h1, h2, h3, by simpa using items_are r⟩
theorem dt_rd {kvs : List (List Key × V)} (ok : HOk P w H h) (e : Rd H a (.dT kvs)) : kvs.length ≤ sizeLine ∧ (a == sysModules) = false ∧
    ∃ xs, KT H kvs xs ∧ h.DictOfH (tupleKind (mixKind P w)) a xs := by
  obtain ⟨z, y, xs, r, o, es, ep, h1, h2, h3, h4, h5⟩ := (show ObjOk P w H h a (.dT kvs) from rd_of ok e)
  refine ⟨z, y, xs, r, o, es, ep, h1, h2, h3, h4, fun x hx => ?_, h5⟩
  have all : ∀ {l : List (List Key × V)} {m : List (List Key × Addr × Value)}, KT H l m → ∀ x ∈ m, (tupleKind (mixKind P w)).is h x.1 x.2.1 := by
    intro l m q
    induction q with
    | nil => intro x hx; exact nomatch hx
    | @cons p q ps qs hq t ih =>
      intro x hx
      rcases List.mem_cons.mp hx with e | hx
      · subst e
        exact key_of ok (by rw [← hq.1]; exact hq.2.1)
      · exact ih x hx
  exact all r x hx
theorem dt_of {kvs : List (List Key × V)} (ok : HOk P w H h) (e : H a = some (.dT kvs)) : kvs.length ≤ sizeLine ∧ (a == sysModules) = false ∧
    ∃ xs, KT H kvs xs ∧ h.DictOfH (tupleKind (mixKind P w)) a xs := dt_rd ok (.inl e)
end
noncomputable def DGet (H : Hp) (a : Addr) (y : V) (r : Option V) : Prop :=
  (∃ kvs k, Rd H a (.dK kvs) ∧ y = kV k ∧ r = valV kvs k) ∨ ∃ kvs k b, Rd H a (.dT kvs) ∧ y = .ref b ∧ H b = some (.tup (k.map kV)) ∧ r = valV kvs k
noncomputable def DPut (H : Hp) (a : Addr) (y v : V) (H' : Hp) : Prop :=
  (∃ kvs k, H a = some (.dK kvs) ∧ y = kV k ∧ kvs.length < sizeLine ∧ H' = upd H a (.dK (putK kvs k v))) ∨
  ∃ kvs k b, H a = some (.dT kvs) ∧ y = .ref b ∧ H b = some (.tup (k.map kV)) ∧ kvs.length < sizeLine ∧ H' = upd H a (.dT (putK kvs k v))
theorem DGet.k {H : Hp} {a : Addr} {kvs : List (Key × V)} {k : Key} (e : H a = some (.dK kvs)) : DGet H a (kV k) (valV kvs k) := .inl ⟨kvs, k, .inl e, rfl, rfl⟩
theorem DGet.t {H : Hp} {a b : Addr} {kvs : List (List Key × V)} {k : List Key} (e : H a = some (.dT kvs)) (eb : H b = some (.tup (k.map kV))) : DGet H a (.ref b) (valV kvs k) := .inr ⟨kvs, k, b, .inl e, rfl, eb, rfl⟩
theorem DPut.k {H : Hp} {a : Addr} {kvs : List (Key × V)} {k : Key} {v : V} (e : H a = some (.dK kvs)) (hl : kvs.length < sizeLine) : DPut H a (kV k) v (upd H a (.dK (putK kvs k v))) := .inl ⟨kvs, k, e, rfl, hl, rfl⟩
theorem DPut.t {H : Hp} {a b : Addr} {kvs : List (List Key × V)} {k : List Key} {v : V} (e : H a = some (.dT kvs)) (eb : H b = some (.tup (k.map kV))) (hl : kvs.length < sizeLine) :
    DPut H a (.ref b) v (upd H a (.dT (putK kvs k v))) := .inr ⟨kvs, k, b, e, rfl, eb, hl, rfl⟩
section
variable {X : Cx} {pins : List (Addr × Obj)} {σ : St} {H : Hp} {s : Shared} {a : Addr} {y v : V} {u r : Value} {o : Option V} {A : Around} {E : Value → Shared → Prop}
theorem Inv.big (I : Inv X pins σ H s) : sysModules < s.heap.objs.size := by
  have h : mainGlobals < s.heap.objs.size := (I.mod.glob.keeps I.bk).lt
  exact Nat.lt_trans (by decide) h
theorem d_getItem {Q : Value → Shared → Prop} (hu : A.units + 1 < cLine) (I : Inv X pins σ H s) (g : DGet H a y (some v)) (ry : RelV y u) (h : ∀ w' s', Inv X pins σ H s' → RelV v w' → Q w' s') :
    wpAny (model X.prog X.w) A (getItem (.ref a) u) Q E s := by
  rcases g with ⟨kvs, k, e, ey, l⟩ | ⟨kvs, k, b, e, ey, eb, l⟩
  · subst ey
    obtain ⟨z, hd, vs, rel, dd⟩ := dk_rd I.hok e
    obtain ⟨w', hw, rw'⟩ := RelO.some_of (v := v) (o := valueAt vs k) (by rw [l]; exact rel.val k)
    exact wpAny_getItem_of (kV_is ry) dd.mapOf hw (h w' _ (I.tok _) rw')
  · subst ey
    cases (show u = Value.ref b from ry)
    obtain ⟨z, hd, xs, rel, dd⟩ := dt_rd I.hok e
    obtain ⟨w', hw, rw'⟩ := RelO.some_of (v := v) (o := (atKey xs k).map (·.2)) (by rw [l]; exact rel.val k)
    obtain ⟨p, hp, hp2⟩ := Option.map_eq_some_iff.mp hw
    refine wpAny_getItem_heap (tupleKind_room_in1 hu) (key_of I.hok eb) dd hp ?_
    rw [hp2]
    exact h w' _ (I.tok _) rw'
theorem d_in {Q : Value → Shared → Prop} (hu : A.units + 1 < cLine) (I : Inv X pins σ H s) (g : DGet H a y o) (ry : RelV y u) (h : ∀ s', Inv X pins σ H s' → Q (.bool o.isSome) s') :
    wpAny (model X.prog X.w) A (compareOp .In u (.ref a)) Q E s := by
  rcases g with ⟨kvs, k, e, ey, l⟩ | ⟨kvs, k, b, e, ey, eb, l⟩
  · subst ey
    obtain ⟨z, hd, vs, rel, dd⟩ := dk_rd I.hok e
    refine wpAny_in_of (kV_is ry) hd dd.mapOf ?_
    rw [← (rel.val k).isSome_eq, ← l]
    exact h _ (I.tok _)
  · subst ey
    cases (show u = Value.ref b from ry)
    obtain ⟨z, hd, xs, rel, dd⟩ := dt_rd I.hok e
    refine wpAny_in_heap (tupleKind_room_in1 hu) (key_of I.hok eb) hd dd ?_
    have q := (rel.val k).isSome_eq
    rw [Option.isSome_map] at q
    rw [← q, ← l]
    exact h _ (I.tok _)
theorem d_notIn {Q : Value → Shared → Prop} (hu : A.units + 1 < cLine) (I : Inv X pins σ H s) (g : DGet H a y o) (ry : RelV y u) (h : ∀ s', Inv X pins σ H s' → Q (.bool (!o.isSome)) s') :
    wpAny (model X.prog X.w) A (compareOp .NotIn u (.ref a)) Q E s := by
  rcases g with ⟨kvs, k, e, ey, l⟩ | ⟨kvs, k, b, e, ey, eb, l⟩
  · subst ey
    obtain ⟨z, hd, vs, rel, dd⟩ := dk_rd I.hok e
    refine wpAny_notIn_of (kV_is ry) hd dd.mapOf ?_
    rw [← (rel.val k).isSome_eq, ← l]
    exact h _ (I.tok _)
  · subst ey
    cases (show u = Value.ref b from ry)
    obtain ⟨z, hd, xs, rel, dd⟩ := dt_rd I.hok e
    refine wpAny_notIn_heap (tupleKind_room_in1 hu) (key_of I.hok eb) hd dd ?_
    have q := (rel.val k).isSome_eq
    rw [Option.isSome_map] at q
    rw [← q, ← l]
    exact h _ (I.tok _)
theorem d_write {h' : Heap} {t' : Nat} {ob : HO} (I : Inv X pins σ H s) (mu : Mut (H a)) (hs : Heap.SameBut a s.heap h') (he : ∃ q, h'.get? a = some q) (new : ObjOk X.prog X.w (upd H a ob) h' a ob) :
    Inv X pins σ (upd H a ob) { s with heap := h', toks := t' } :=
  I.write (x := a) (e := a) mu (.inl rfl) (fun b q hb z => (hs.2 b hb).trans z) he new
theorem dk_new {P : Program} {w : World} {H' : Hp} {h' : Heap} {kvs : List (Key × V)} {vs : List (Key × Value)} (z : kvs.length ≤ sizeLine) (hd : (a == sysModules) = false) (rel : KV kvs vs) (dd : h'.DictOf (mixKind P w) a vs) :
    ObjOk P w H' h' a (.dK kvs) := ⟨z, hd, vs, rel, dd⟩
theorem d_setItem {H' : Hp} {Q : Unit → Shared → Prop} (hu : A.units + 1 < cLine) (I : Inv X pins σ H s) (g : DPut H a y v H') (ry : RelV y u) (rv : RelV v r) (h : ∀ s', Inv X pins σ H' s' → Q () s') :
    wpAny (model X.prog X.w) A (setItem (.ref a) u r) Q E s := by
  rcases g with ⟨kvs, k, e, ey, l, eH⟩ | ⟨kvs, k, b, e, ey, eb, l, eH⟩
  · subst ey eH
    obtain ⟨z, hd, vs, rel, dd⟩ := dk_of I.hok e
    have hz : vs.length ≤ sizeLine := by rw [← rel.length]; exact z
    have hl : (putK kvs k v).length ≤ sizeLine := by have := length_putK kvs k v; lia
    refine wpAny_setItem_pairs (hsz := hz) (kV_is ry) dd fun h' dd' hs => h _ ?_
    have he : ∃ q, h'.get? a = some q := let ⟨q, _, _, hq, _⟩ := dd'; ⟨q, hq⟩
    exact d_write I (by rw [e]; exact True.intro) hs he (dk_new hl hd (rel.put k rv) dd')
  · subst ey eH
    cases (show u = Value.ref b from ry)
    obtain ⟨z, hd, xs, rel, dd⟩ := dt_of I.hok e
    have hz : xs.length ≤ sizeLine := by rw [← Paired.length rel]; exact z
    have hl : (putK kvs k v).length ≤ sizeLine := by have := length_putK kvs k v; lia
    refine wpAny_setItem_heap (hsz := hz) (tupleKind_room_in1 hu) (key_of I.hok eb) dd fun h' dd' hs => h _ ?_
    obtain ⟨q, es, ep, hq, h2, h3, h4, _, h5⟩ := dd'
    refine d_write I (by rw [e]; exact True.intro) hs ⟨q, hq⟩ ⟨hl, hd, _, (rel.put k eb rv).keeps fun c ys ec => ?_, q, es, ep, hq, h2, h3, h4, h5⟩
    rw [upd_ne (ne_of ec e (fun z => nomatch z))]
    exact ec
end
section
variable {X : Cx} {pins : List (Addr × Obj)} {σ : St} {H : Hp} {s : Shared} {a : Addr} {kvs : List (Key × V)} {k : Key} {u : Value} {A : Around} {E : Value → Shared → Prop}
theorem d_pop {v : V} {more : List Value} {Q : Value → Shared → Prop} (I : Inv X pins σ H s) (e : H a = some (.dK kvs)) (ry : RelV (kV k) u) (l : valV kvs k = some v) (hm : more = [] ∨ ∃ x, more = [x])
    (h : ∀ w' s', Inv X pins σ (upd H a (.dK (dropK kvs k))) s' → RelV v w' → Q w' s') : wpAny (model X.prog X.w) A (call (.builtin "dict.pop") (.ref a :: u :: more)) Q E s := by
  obtain ⟨z, hd, vs, rel, dd⟩ := dk_of I.hok e
  obtain ⟨w', hw, rw'⟩ := RelO.some_of (v := v) (o := valueAt vs k) (by rw [← l]; exact rel.val k)
  have hp : (keyPart u).isSome = true := by
    cases k with
    | inl i => obtain ⟨t, q⟩ := (show ∃ t, u = Value.int i t from ry); subst q; rfl
    | inr x => obtain ⟨t, q⟩ := (show ∃ t, u = Value.str x t from ry); subst q; rfl
  have ha : argsOk "dict.pop" ⟨.ref a :: u :: more, []⟩ := by
    rcases hm with q | ⟨x, q⟩
    · subst q; exact PySem.F.args_dict_pop_2 _ _
    · subst q; exact PySem.F.args_dict_pop_3 _ _ _
  refine call_meetsIn PySem.F.slot_dict_pop dd.typeIs PySem.F.entry_dict_pop ha (meets_dict_pop_there (mixKind X.prog X.w) a (kV_is ry) more hm hp)
    ⟨vs, w', dd, by rw [← rel.length]; exact z, hw, fun h' dd' hs => h w' _ ?_ rw'⟩
  have he : ∃ q, h'.get? a = some q := let ⟨q, _, _, hq, _⟩ := dd'; ⟨q, hq⟩
  exact d_write I (by rw [e]; exact True.intro) hs he (dk_new (Nat.le_trans (dropK_le kvs k) z) hd (rel.drop k) dd')
end
noncomputable def NoSl (i : Expr) : Prop := ∀ ov iv, subscripted i false ov iv = operate [ov, iv] (getItem ov iv)
theorem subD_of {prog : Program} {w : World} {A : Around} {E : Value → Shared → Prop} {s : Shared} {env : Env} {value slice : Expr} {pos : Pos} {T id : String} {Q : Value → Shared → Prop}
    (hl : typeLookup (.type T) "__getitem__" = pure (some (.builtin id))) (hs : NoSl slice)
    (h : wpAny (model prog w) A (eval value env) (fun o s₁ => wpAny (model prog w) A (eval slice env) (fun i s₂ => s₂.TypeIs o T ∧ wpAny (model prog w) A (getItem o i) Q E s₂) E s₁) E s) :
    wpAny (model prog w) A (eval (.Subscript value slice pos) env) Q E s := by
  refine Subscript_ (wpAny_mono h (fun o s₁ h₁ => wpAny_mono h₁ (fun i s₂ h₂ => ?_) fun _ _ x => x) fun _ _ x => x)
  obtain ⟨hT, h₂⟩ := h₂
  unfold subscriptTail
  refine wpAny_bind ?_
  rw [getitemInPython_of_ne hT.not_modules]
  refine wpAny_bind (wpAny_specialOf hT hl ?_)
  have fin : wpAny (model prog w) A (subscripted slice false o i) (fun r s₃ => wpAny (model prog w) A (letTemporaryGo value o r >>= fun _ => pure r) Q E s₃) E s₂ := by
    rw [hs o i]
    exact wpAny_operating (wpAny_mono h₂ (fun r s₃ h₃ => wpAny_bind (wpAny_letTemporaryGo (wpAny_pure h₃))) fun _ _ x => x)
  first
    | exact wpAny_pure (wpAny_bind fin)
    | exact wpAny_bind (wpAny_pure (wpAny_bind fin))
    | exact wpAny_bind fin
theorem dict_typeIs {X : Cx} {pins : List (Addr × Obj)} {σ : St} {H : Hp} {s : Shared} {a : Addr} {y : V} {o : Option V} (I : Inv X pins σ H s) (g : DGet H a y o) : s.TypeIs (.ref a) "dict" := by
  rcases g with ⟨kvs, k, e, _, _⟩ | ⟨kvs, k, b, e, _, _, _⟩
  · obtain ⟨_, _, vs, _, dd⟩ := dk_rd I.hok e
    exact dd.typeIs
  · obtain ⟨_, _, xs, _, dd⟩ := dt_rd I.hok e
    exact dd.typeIs
noncomputable def tDGet (td ty : TE) : TE := fun σ H Q => td σ H fun x H1 => ty σ H1 fun y H2 => ∃ a v, x = .ref a ∧ DGet H2 a y (some v) ∧ Q v H2
noncomputable def tDIn (ty td : TE) : TE := fun σ H Q => ty σ H fun y H1 => td σ H1 fun x H2 => ∃ a o, x = .ref a ∧ DGet H2 a y o ∧ Q (.bl o.isSome) H2
noncomputable def tDNotIn (ty td : TE) : TE := fun σ H Q => ty σ H fun y H1 => td σ H1 fun x H2 => ∃ a o, x = .ref a ∧ DGet H2 a y o ∧ Q (.bl (!o.isSome)) H2
noncomputable def sDPut (td ty tv : TE) : TS := fun D σ H => tv σ H fun v H1 => td σ H1 fun x H2 => ty σ H2 fun y H3 => ∃ a H4, x = .ref a ∧ DPut H3 a y v H4 ∧ D.nx σ H4
section
variable {X : Cx} {o i e value : Expr} {pos pos' tpos : Pos} {td ty tv : TE}
theorem pe_dget (hu : X.A.units + 1 < cLine) (ho : PE X o td) (hi : PE X i ty) (hs : NoSl i) : PE X (.Subscript o i pos) (tDGet td ty) := by
  intro pins s σ H Q I h
  refine subD_of PySem.F.slot_dict_getitem.lookup hs (thn (ho pins s σ H _ I h) fun u s1 hh => ?_)
  obtain ⟨x, H1, I1, rx, q1⟩ := hh
  refine thn (hi pins s1 σ H1 _ I1 q1) fun iv s2 hh => ?_
  obtain ⟨y, H2, I2, ry, a, v, ex, g, q2⟩ := hh
  subst ex
  obtain rfl : u = Value.ref a := rx
  exact ⟨dict_typeIs I2 g, d_getItem hu I2 g ry fun w' s3 I3 rw' => ⟨v, H2, I3, rw', q2⟩⟩
theorem pc_din (hu : X.A.units + 1 < cLine) (hi : PE X i ty) (ho : PE X o td) : PC X .In i o (tDIn ty td) := by
  intro pins s σ H Q I h
  refine thn (hi pins s σ H _ I h) fun iv s1 hh => ?_
  obtain ⟨y, H1, I1, ry, q1⟩ := hh
  refine thn (ho pins s1 σ H1 _ I1 q1) fun u s2 hh => ?_
  obtain ⟨x, H2, I2, rx, a, ov, ex, g, q2⟩ := hh
  subst ex
  obtain rfl : u = Value.ref a := rx
  exact d_in hu I2 g ry fun s3 I3 => ⟨.bl ov.isSome, H2, I3, rfl, q2⟩
theorem pc_dnotin (hu : X.A.units + 1 < cLine) (hi : PE X i ty) (ho : PE X o td) : PC X .NotIn i o (tDNotIn ty td) := by
  intro pins s σ H Q I h
  refine thn (hi pins s σ H _ I h) fun iv s1 hh => ?_
  obtain ⟨y, H1, I1, ry, q1⟩ := hh
  refine thn (ho pins s1 σ H1 _ I1 q1) fun u s2 hh => ?_
  obtain ⟨x, H2, I2, rx, a, ov, ex, g, q2⟩ := hh
  subst ex
  obtain rfl : u = Value.ref a := rx
  exact d_notIn hu I2 g ry fun s3 I3 => ⟨.bl (!ov.isSome), H2, I3, rfl, q2⟩
theorem ps_dput (hu : X.A.units + 1 < cLine) (ho : PE X o td) (hi : PE X i ty) (hv : PE X value tv) (hs : swapsWith value (some (.Subscript o i pos')) pos.line X.env = pure false) :
    PS X (.Assign [.Subscript o i pos'] value pos) (sDPut td ty tv) := by
  intro pins s σ H D I h
  refine wpAny_Assign_Subscript (thn (hv pins s σ H _ I h) fun r s1 ⟨v, H1, I1, rv, q1⟩ => thn (ho pins s1 σ H1 _ I1 q1) fun u s2 ⟨x, H2, I2, rx, q2⟩ => thn (hi pins s2 σ H2 _ I2 q2) fun iv s3 ⟨y, H3, I3, ry, a, H4, ex, g, q3⟩ => ?_) hs
  subst ex
  obtain rfl : u = Value.ref a := rx
  exact d_setItem hu I3 g ry rv fun s4 I4 => ⟨σ, H4, I4, q3⟩
end
theorem dk_empty {P : Program} {w : World} {H : Hp} (h : Heap) (hb : sysModules < h.objs.size) : ObjOk P w H (h.push { cls := .type "dict", data := .dict #[] }) h.objs.size (.dK []) :=
  ⟨Nat.zero_le _, beq_eq_false_iff_ne.mpr (Ne.symm (Nat.ne_of_lt hb)), [], .nil, Heap.DictOf.new h⟩
noncomputable def tDNewK : TE := fun _ H Q => ∀ p, H p = none → Q (.ref p) (upd H p (.dK []))
section
variable {X : Cx} {pos : Pos}
theorem pe_dnewK : PE X (.Dict [] [] pos) tDNewK := fun pins s σ H Q I h =>
  wpAny_Dict_empty ⟨.ref s.heap.objs.size, _, I.laid (a := s.heap.objs.size) (o := .dK []) (t' := s.toks) (fun _ _ q => Heap.get?_push_of_some _ q) (Nat.le_refl _) (dk_empty s.heap I.big), rfl, h _ (I.hok.fresh (Nat.le_refl _))⟩
end
noncomputable def tPairs : List (TE × TE) → St → Hp → (List (V × V) → Hp → Prop) → Prop
  | [], _, H, Q => Q [] H
  | (tk, tv) :: r, σ, H, Q => tk σ H fun x H1 => tv σ H1 fun y H2 => tPairs r σ H2 fun ps H3 => Q ((x, y) :: ps) H3
noncomputable abbrev VV : List (V × V) → List (Value × Value) → Prop := Paired fun p q => RelV p.1 q.1 ∧ RelV p.2 q.2
noncomputable def PPs (X : Cx) (pos : Pos) (keys : List (Option Expr)) (values : List Expr) (trs : List (TE × TE)) : Prop :=
  ∀ (pins : List (Addr × Obj)) (s : Shared) (σ : St) (H : Hp) (Q : List (V × V) → Hp → Prop), Inv X pins σ H s → tPairs trs σ H Q →
    wpAny (model X.prog X.w) X.A (evalPairs (pairTrees keys values X.env pos)) (fun vs s' => ∃ ps H', Inv X pins σ H' s' ∧ VV ps vs ∧ Q ps H') X.xe s
theorem pps_nil {X : Cx} {pos : Pos} : PPs X pos [] [] [] := fun pins s σ H Q I h => pairTrees_nil_walk ⟨[], H, I, .nil, h⟩
theorem pps_cons {X : Cx} {pos : Pos} {k v : Expr} {ks : List (Option Expr)} {vs : List Expr} {tk tv : TE} {trs : List (TE × TE)} (hk : PE X k tk) (hv : PE X v tv) (hr : PPs X pos ks vs trs) :
    PPs X pos (some k :: ks) (v :: vs) ((tk, tv) :: trs) := fun pins s σ H Q I h =>
  pairTrees_cons_walk (thn (hk pins s σ H _ I h) fun u s1 ⟨x, H1, I1, rx, q1⟩ => thn (hv pins s1 σ H1 _ I1 q1) fun w2 s2 ⟨y, H2, I2, ry, q2⟩ =>
    thn (hr pins s2 σ H2 _ I2 q2) fun ws s3 ⟨ps, H3, I3, rel, q3⟩ => ⟨(x, y) :: ps, H3, I3, .cons ⟨rx, ry⟩ rel, q3⟩)
noncomputable def mergeK (kvs more : List (Key × V)) : List (Key × V) := more.foldl (fun acc kv => putK acc kv.1 kv.2) kvs
theorem KV.merge : ∀ {more : List (Key × V)} {rs : List (Key × Value)} {kvs : List (Key × V)} {vs : List (Key × Value)}, KV more rs → KV kvs vs → KV (mergeK kvs more) (merged vs rs) := by
  intro more rs kvs vs r
  unfold KV at r
  induction r generalizing kvs vs with
  | nil => intro q; exact q
  | @cons p q ps qs h t ih =>
    intro r0
    have e : KV (putK kvs p.1 p.2) (stored vs q.1 q.2) := by
      have := r0.put p.1 h.2
      rw [← h.1]; exact this
    exact ih e
theorem length_mergeK : ∀ (more kvs : List (Key × V)), (mergeK kvs more).length ≤ kvs.length + more.length
  | [], kvs => by show kvs.length ≤ kvs.length + 0; lia
  | p :: r, kvs => by
    have h1 := length_mergeK r (putK kvs p.1 p.2)
    have h2 := length_putK kvs p.1 p.2
    show (mergeK (putK kvs p.1 p.2) r).length ≤ _
    rw [List.length_cons]; lia
theorem carries_of {P : Program} {w : World} : ∀ {kvs : List (Key × V)} {ws : List (Value × Value)}, VV (kvs.map fun kv => (kV kv.1, kv.2)) ws → ∃ rs, Carries (mixKind P w) ws rs ∧ KV kvs rs
  | [], _, r => by rw [List.map_nil] at r; cases r; exact ⟨[], True.intro, .nil⟩
  | p :: kvs, _, r => by
    rw [List.map_cons] at r
    cases r with
    | @cons a b as bs h t =>
      obtain ⟨rs, c, q⟩ := carries_of (P := P) (w := w) t
      obtain ⟨b1, b2⟩ := b
      exact ⟨(p.1, b2) :: rs, ⟨kV_is h.1, rfl, c⟩, .cons ⟨rfl, h.2⟩ q⟩
noncomputable def tDisp (trs : List (TE × TE)) : TE := fun σ H Q => ∀ p, H p = none → tPairs trs σ (upd H p (.dK [])) fun ps H2 => H2 p = some (.dK []) ∧ ∃ kvs : List (Key × V), ps = kvs.map (fun kv => (kV kv.1, kv.2)) ∧ kvs.length ≤ 15 ∧ Q (.ref p) (upd H2 p (.dK (mergeK [] kvs)))
theorem pe_disp {X : Cx} {pos : Pos} {keys : List (Option Expr)} {values : List Expr} {trs : List (TE × TE)} (h : PPs X pos keys values trs) (hall : keys.all (·.isSome) = true) (hl : keys.length = values.length) (h0 : keys ≠ [])
    (h15 : keys.length ≤ 15) : PE X (.Dict keys values pos) (tDisp trs) := by
  intro pins s σ H Q I q
  have hn := I.hok.fresh (Nat.le_refl s.heap.objs.size)
  have I1 := I.laid (a := s.heap.objs.size) (o := .dK []) (h' := s.heap.push { cls := .type "dict", data := .dict #[] }) (t' := s.toks) (fun _ _ q => Heap.get?_push_of_some _ q) (Nat.le_refl _) (dk_empty s.heap I.big)
  refine wpAny_Dict_walk (knd := mixKind X.prog X.w) hall hl h0 h15 (thn (h pins _ σ _ _ I1 (q _ hn)) fun ws s2 hh => ?_)
  obtain ⟨ps, H2, I2, rel, e, kvs, ep, lk, q2⟩ := hh
  subst ep
  obtain ⟨rs, c, rk⟩ := carries_of (P := X.prog) (w := X.w) rel
  obtain ⟨z, hd, vs0, r0, dd⟩ := dk_of I2.hok e
  cases r0
  refine ⟨rs, c, dd, fun h' dd' hs => ⟨.ref s.heap.objs.size, _, ?_, rfl, q2⟩⟩
  have hz : (mergeK [] kvs).length ≤ sizeLine := by
    have h1 := length_mergeK kvs []
    rw [List.length_nil] at h1
    rw [sizeLine_eq]; lia
  have he : ∃ q, h'.get? s.heap.objs.size = some q := let ⟨q, _, _, hq, _⟩ := dd'; ⟨q, hq⟩
  exact d_write I2 (by rw [e]; exact True.intro) hs he (dk_new hz hd (rk.merge .nil) dd')
structure M1 (X : Cx) (o : Expr) (m : Str) (apos : Pos) (e : Expr) (cpos : Pos) : Prop where
  base : attributeBase o m X.env (eval o X.env) = eval o X.env
  few : ((backTo cpos (starEach [e] X.env)).all (fun x => !x.1) && (backToKw cpos (keywordEach [] X.env)).all (fun x => x.1.isSome)
    && decide (([e] : List Expr).length + ([] : List Keyword).length + (if ([] : List Keyword).isEmpty then 0 else 1) < 30)) = true
  line : (apos.endLine == cpos.line) = true
  trees : backTo cpos (starEach [e] X.env) = [(false, eval e X.env)]
noncomputable def IsD (H : Hp) (a : Addr) : Prop := (∃ kvs, Rd H a (.dK kvs)) ∨ ∃ kvs, Rd H a (.dT kvs)
theorem isD_at {X : Cx} {pins : List (Addr × Obj)} {σ : St} {H : Hp} {s : Shared} {a : Addr} (I : Inv X pins σ H s) (d : IsD H a) :
    s.TypeIs (.ref a) "dict" ∧ (∀ b, Value.ref a = .ref b → ∃ ob, s.heap.get? b = some ob ∧ ob.dict = none) ∧ (a == sysModules) = false := by
  rcases d with ⟨kvs, e⟩ | ⟨kvs, e⟩
  · obtain ⟨_, hd, vs, _, dd⟩ := dk_rd I.hok e
    refine ⟨dd.typeIs, fun b q => ?_, hd⟩
    cases q
    obtain ⟨ob, _, _, h1, h2, _⟩ := dd
    exact ⟨ob, h1, h2.2.1⟩
  · obtain ⟨_, hd, xs, _, dd⟩ := dt_rd I.hok e
    refine ⟨dd.typeIs, fun b q => ?_, hd⟩
    cases q
    obtain ⟨ob, _, _, h1, h2, _⟩ := dd
    exact ⟨ob, h1, h2.2.1⟩
section
variable {X : Cx} {pins : List (Addr × Obj)} {σ : St} {H : Hp} {s : Shared} {a : Addr} {y d : V} {u r : Value} {o : Option V} {A : Around} {E : Value → Shared → Prop}
end
noncomputable def tDPop1 (td ty : TE) : TE := fun σ H Q => td σ H fun x H1 => ∃ a, x = .ref a ∧ IsD H1 a ∧ ty σ H1 fun y H2 => ∃ kvs k v, H2 a = some (.dK kvs) ∧ y = kV k ∧ valV kvs k = some v ∧ Q v (upd H2 a (.dK (dropK kvs k)))
section
variable {X : Cx} {o e f : Expr} {apos cpos : Pos} {td ty tx : TE}
theorem pe_dpop1 (ho : PE X o td) (he : PE X e ty) (m : M1 X o "pop" apos e cpos) : PE X (.Call (.Attribute o "pop" apos) [e] [] cpos) (tDPop1 td ty) := by
  intro pins s σ H Q I h
  refine wpAny_Call_method m.base m.few m.line PySem.F.plainAttrs_dict PySem.F.slot_dict_pop PySem.F.type_dict_pop (thn (ho pins s σ H _ I h) fun u s1 hh => ?_)
  obtain ⟨x, H1, I1, rx, a, ex, d, q1⟩ := hh
  subst ex
  obtain rfl : u = Value.ref a := rx
  obtain ⟨t1, t2, _⟩ := isD_at I1 d
  refine ⟨t1, t2, ?_⟩
  rw [m.trees]
  refine Calls.callWith_builtin rfl (Calls.evalArgs_plain (Calls.spliced_cons (thn (he pins s1 σ H1 _ I1 q1) fun iv s2 hh => ?_)))
  obtain ⟨y, H2, I2, ry, kvs, k, v, ea, ey, l, q2⟩ := hh
  refine Calls.spliced_nil ?_
  subst ey
  exact d_pop I2 ea ry l (.inl rfl) fun w' s3 I3 rw' => ⟨v, _, I3, rw', q2⟩
end
section
variable {X : Cx} {pins : List (Addr × Obj)} {σ : St} {H : Hp} {s : Shared} {a : Addr} {kvs : List (Key × V)} {A : Around} {E : Value → Shared → Prop}
end
section
variable {X : Cx} {pins : List (Addr × Obj)} {σ : St} {H : Hp} {s : Shared} {a : Addr} {y : V} {u : Value} {A : Around} {E : Value → Shared → Prop}
end
end L2
namespace HT
open PySem PyProof.Rows
noncomputable def lexLt : List Int → List Int → Bool
  | [], [] => false
  | [], _ :: _ => true
  | _ :: _, [] => false
  | x :: xs, y :: ys => if x = y then lexLt xs ys else decide (x < y)
theorem lexLt_cons (x y : Int) (xs ys : List Int) : lexLt (x :: xs) (y :: ys) = if x = y then lexLt xs ys else decide (x < y) := rfl
theorem eqAt_int (A : Around) (s : Shared) (a : Int) (t : Tok) (c : Int) (u : Tok) : ∃ e, SeqAt.EqAt A s (.int a t) (.int c u) e ∧ (e = true ↔ a = c) :=
  ⟨(a == c), SeqAt.EqAt.int_int a t c u, by simp⟩
theorem rcLt_int (A : Around) (s : Shared) (a : Int) (t : Tok) (c : Int) (u : Tok) (prog : Program) (w : World) (E : Value → Shared → Prop) (Q : Value → Shared → Prop) (h : Q (.bool (decide (a < c))) s) :
    wpAny (model prog w) A (richCompare .Lt (.int a t) (.int c u)) Q E s :=
  (PyProof.Rows.lt_int h : wpAny (model prog w) A (compareOp .Lt (.int a t) (.int c u)) Q E s)
section
open PySem.SeqAt
open PySem.AutoSeq1 (wpAny_loadPart')
open PySem.MeetsSeq PySem.MeetsSeq2 PySem.MeetsSeq3
end
section
variable {prog : Program} {w : World} {A : Around} {E : Value → Shared → Prop} {s : Shared}
noncomputable def sIx (n d : Nat) : Option Int → Nat
  | none => d
  | some v => if v < 0 then (v + (n : Int)).toNat else min v.toNat n
theorem sIx_none (n d : Nat) : sIx n d none = d := rfl
theorem sIx_nat (n d k : Nat) : sIx n d (some (k : Int)) = min k n := by
  show (if (k : Int) < 0 then ((k : Int) + (n : Int)).toNat else min (k : Int).toNat n) = min k n
  rw [if_neg (by lia), Int.toNat_natCast]
end
end HT
namespace L2
open PySem PySem.Spec PyProof.Rows
noncomputable abbrev TO := St → Hp → (Option Int → Hp → Prop) → Prop
noncomputable def PO (X : Cx) (e : Option Expr) (t : TO) : Prop :=
  ∀ (pins : List (Addr × Obj)) (s : Shared) (σ : St) (H : Hp) (Q : Option Int → Hp → Prop), Inv X pins σ H s → t σ H Q →
    wpAny (model X.prog X.w) X.A (evalPart e X.env) (fun u s' => ∃ o H', Inv X pins σ H' s' ∧ IsPart u o ∧ Q o H') X.xe s
noncomputable def tNoPart : TO := fun _ H Q => Q none H
noncomputable def tPart (t : TE) : TO := fun σ H Q => t σ H fun x H1 => ∃ i, x = .int i ∧ Q (some i) H1
theorem intsAre_of {ns : List Int} : ∀ {us : List Value}, Vals (ns.map V.int) us → IntsAre us ns := by
  induction ns with
  | nil => intro us r; rw [List.map_nil] at r; cases r; exact .nil
  | cons n ns ih =>
    intro us r
    rw [List.map_cons] at r
    cases r with
    | cons r1 r2 =>
      obtain ⟨t, e⟩ := r1
      subst e
      exact .cons n t (ih r2)
section
variable {X : Cx} {e : Expr} {te : TE} {lo hi : Option Expr} {tl th : TO} {pos p2 : Pos}
theorem po_none : PO X none tNoPart := by
  intro pins s σ H Q I h
  rw [evalPart_none]
  exact wpAny_pure ⟨none, H, I, .none, h⟩
theorem po_some (h : PE X e te) : PO X (some e) (tPart te) := by
  intro pins s σ H Q I hw
  rw [evalPart_some]
  refine thn (h pins s σ H _ I hw) fun u s1 hh => ?_
  obtain ⟨x, H1, I1, r1, q1⟩ := hh
  obtain ⟨i, rfl, q⟩ := q1
  obtain ⟨t, rfl⟩ := r1
  exact ⟨some i, H1, I1, .int i t, q⟩
noncomputable def SlR (X : Cx) (r : V → Option Int → Option Int → Hp → VK → Prop) : Prop :=
  ∀ (pins : List (Addr × Obj)) (s : Shared) (σ : St) (H : Hp) (x : V) (v vl vu : Value) (lo hi : Option Int) (sl : Addr) (Q : VK), Inv X pins σ H s → RelV x v → s.heap.IsSliceOf sl vl vu .none → IsPart vl lo → IsPart vu hi → r x lo hi H Q →
    ∃ T id, typeLookup (.type T) "__getitem__" = pure (some (.builtin id)) ∧ s.TypeIs v T ∧ wpAny (model X.prog X.w) X.A (getItem v (.ref sl)) (EP X pins σ Q) X.xe s
noncomputable def tSl (r : V → Option Int → Option Int → Hp → VK → Prop) (te : TE) (tl th : TO) : TE := fun σ H Q => te σ H fun x H1 => tl σ H1 fun l H2 => th σ H2 fun u H3 => r x l u H3 Q
theorem pe_slice {r : V → Option Int → Option Int → Hp → VK → Prop} (hr : SlR X r) (he : PE X e te) (hl : PO X lo tl) (hu : PO X hi th) : PE X (.Subscript e (.Slice lo hi none p2) pos) (tSl r te tl th) := by
  intro pins s σ H Q I h
  refine Subscript_ (thn (he pins s σ H _ I h) fun v s1 hh => ?_)
  obtain ⟨x, H1, I1, r1, q1⟩ := hh
  refine wpAny_Slice (thn (hl pins s1 σ H1 _ I1 q1) fun vl s2 hh => ?_)
  obtain ⟨l, H2, I2, pl, q2⟩ := hh
  refine thn (hu pins s2 σ H2 _ I2 q2) fun vu s3 hh => ?_
  obtain ⟨u, H3, I3, pu, q3⟩ := hh
  rw [evalPart_none]
  refine wpAny_pure ?_
  have I4 : Inv X pins σ H3 { s3 with heap := s3.heap.push { cls := .type "slice", data := .fields #[vl, vu, .none] } } := I3.kept (t' := s3.toks) fun b ob q => Heap.get?_push_of_some _ q
  obtain ⟨T, id, hT, ht, hg⟩ := hr pins { s3 with heap := s3.heap.push { cls := .type "slice", data := .fields #[vl, vu, .none] } } σ H3 x v vl vu l u s3.heap.objs.size Q I4 r1 (Heap.IsSliceOf.new ..) pl pu q3
  show wpAny (model X.prog X.w) X.A (subscriptTail e (.Slice lo hi none p2) v (.ref s3.heap.objs.size)) (EP X pins σ Q) X.xe { s3 with heap := s3.heap.push { cls := .type "slice", data := .fields #[vl, vu, .none] } }
  exact tail_any (ops := [.ref s3.heap.objs.size, v]) ht hT hg (by with_unfolding_all rfl)
noncomputable def cutV (xs : List V) (lo hi : Option Int) : List V := (xs.drop (HT.sIx xs.length 0 lo)).take (HT.sIx xs.length xs.length hi - HT.sIx xs.length 0 lo)
theorem cutV_length (xs : List V) (lo hi : Option Int) : (cutV xs lo hi).length ≤ xs.length := by
  unfold cutV
  rw [List.length_take, List.length_drop]
  lia
end
end L2
namespace L2
open PySem PySem.Spec PyProof.Rows
noncomputable def ixN (n : Nat) (i : Int) : Option Nat := if 0 ≤ i then (if i < n then some i.toNat else none) else if -(n : Int) ≤ i then some (i + n).toNat else none
noncomputable def atI {α : Type} (xs : List α) (i : Int) : Option α := (ixN xs.length i).bind fun j => xs[j]?
theorem ixN_seq {n : Nat} {i : Int} {j : Nat} (h : ixN n i = some j) : seqIndex? i n = some j ∧ j < n ∧ -(n : Int) ≤ i ∧ i < n := by
  unfold ixN at h
  by_cases h0 : 0 ≤ i
  · rw [if_pos h0] at h
    by_cases h1 : i < n
    · rw [if_pos h1] at h
      have e : i.toNat = j := Option.some.inj h
      exact ⟨by rw [seqIndex_of h0 h1, e], by lia, by lia, h1⟩
    · rw [if_neg h1] at h; cases h
  · rw [if_neg h0] at h
    by_cases h1 : -(n : Int) ≤ i
    · rw [if_pos h1] at h
      have e : (i + n).toNat = j := Option.some.inj h
      exact ⟨by rw [seqIndex_neg (by lia) h1, e], by lia, h1, by lia⟩
    · rw [if_neg h1] at h; cases h
theorem atI_get {α : Type} {xs : List α} {i : Int} {v : α} (h : atI xs i = some v) : ∃ j, seqIndex? i xs.length = some j ∧ xs[j]? = some v ∧ j < xs.length ∧ -(xs.length : Int) ≤ i ∧ i < xs.length := by
  unfold atI at h
  cases e : ixN xs.length i with
  | none => rw [e] at h; cases h
  | some j =>
    rw [e] at h
    obtain ⟨h1, h2, h3, h4⟩ := ixN_seq e
    exact ⟨j, h1, h, h2, h3, h4⟩
theorem atI_nat {α : Type} {xs : List α} {j : Nat} {v : α} (h : xs[j]? = some v) : atI xs (j : Int) = some v := by
  have hj : j < xs.length := (List.getElem?_eq_some_iff.mp h).1
  have e : ixN xs.length (j : Int) = some j := by
    unfold ixN
    rw [if_pos (by lia), if_pos (by lia)]; simp
  unfold atI; rw [e]; exact h
noncomputable def PlainIx (b : Expr) : Prop := ∀ o i, subscripted b false o i = operate [o, i] (getItem o i)
noncomputable def IxR (X : Cx) (r : R2) : Prop :=
  ∀ (value slice : Expr) (pins : List (Addr × Obj)) (s : Shared) (σ : St) (H : Hp) (x y : V) (v u : Value) (Q : VK), Inv X pins σ H s → RelV x v → RelV y u → r x y H Q →
    subscripted slice false v u = operate [v, u] (getItem v u) → wpAny (model X.prog X.w) X.A (subscriptTail value slice v u) (EP X pins σ Q) X.xe s
noncomputable def MtR (X : Cx) (id : String) (r : V → List V → Hp → VK → Prop) : Prop :=
  ∀ (pins : List (Addr × Obj)) (s : Shared) (σ : St) (H : Hp) (x : V) (xs : List V) (v : Value) (us : List Value) (Q : VK), Inv X pins σ H s → RelV x v → Vals xs us → r x xs H Q →
    wpAny (model X.prog X.w) X.A (call (.builtin id) (v :: us)) (EP X pins σ Q) X.xe s
section
variable {X : Cx} {a b : Expr} {ta tb : TE} {pos : Pos}
theorem pe_ix {r : R2} (hr : IxR X r) (ha : PE X a ta) (hb : PE X b tb) (hs : PlainIx b) : PE X (.Subscript a b pos) (tOp r ta tb) := by
  intro pins s σ H Q I h
  exact Subscript_ (binT ha hb I h fun v u s2 x y H2 I2 rx ry q => hr a b pins s2 σ H2 x y v u Q I2 rx ry q (hs _ _))
noncomputable def rIxL (K : PySem.W.Frag) : R2 := fun x y H Q => ∃ p xs i v, x = .ref p ∧ y = .int i ∧ SqL K H p xs ∧ atI xs i = some v ∧ Q v H
noncomputable def rIxT (K : PySem.W.Frag) : R2 := fun x y H Q => ∃ p xs i v, x = .ref p ∧ y = .int i ∧ SqT K H p xs ∧ atI xs i = some v ∧ Q v H
theorem ix_list : IxR X (rIxL X.K) := by
  intro value slice pins s σ H x y v u Q I rx ry h hs
  obtain ⟨p, xs, i, z, rfl, rfl, hq, he, q⟩ := h
  cases rx
  obtain ⟨t, rfl⟩ := ry
  obtain ⟨its, r, pl, hz⟩ := I.list hq
  obtain ⟨j, h1, h2, h3, h4, h5⟩ := atI_get he
  obtain ⟨w, ew, rw'⟩ := r.get h2
  have hl := r.length
  have hn := line63
  have fin : EP X pins σ Q w s := ⟨z, H, I, rw', q⟩
  by_cases h0 : 0 ≤ i
  · have hj : i.toNat = j := by
      rw [seqIndex_of h0 h5] at h1
      exact Option.some.inj h1
    exact item_listR pl.isList h0 (by lia) (by rw [hj]; simpa using ew) fin hs
  · have hj : (i + (its.toArray.size : Int)).toNat = j := by
      rw [seqIndex_neg (by lia) h4] at h1
      rw [List.size_toArray, ← hl]
      exact Option.some.inj h1
    exact subscriptTail_builtinR (x := w) pl.isList.typeIs slot_list_getitem.lookup
      (wpAny_getItem_list_neg (Q := fun r s' => r = w ∧ EP X pins σ Q r s') pl.isList (by lia) (by rw [List.size_toArray] <;> lia) (by lia) (by rw [hj]; simpa using ew) ⟨rfl, fin⟩) hs
theorem ix_tup : IxR X (rIxT X.K) := by
  intro value slice pins s σ H x y v u Q I rx ry h hs
  obtain ⟨p, xs, i, z, rfl, rfl, hq, he, q⟩ := h
  cases rx
  obtain ⟨t, rfl⟩ := ry
  obtain ⟨its, r, pl, hz⟩ := I.tuple hq
  obtain ⟨j, h1, h2, h3, h4, h5⟩ := atI_get he
  obtain ⟨w, ew, rw'⟩ := r.get h2
  have hl := r.length
  have hn := line63
  have fin : EP X pins σ Q w s := ⟨z, H, I, rw', q⟩
  exact subscriptTail_builtinR (x := w) pl.typeIs slot_tuple_getitem.lookup
    (getItem_tuple (j := j) (Q := fun r s' => r = w ∧ EP X pins σ Q r s') pl (by lia) (by lia) (by rw [List.size_toArray, ← hl]; exact h1) (by simpa using ew) ⟨rfl, fin⟩) hs
theorem mapSeq_set (its : List Value) (n j : Nat) (u : Value) : Obj.mapSeq (·.setIfInBounds j u) { cls := .type "list", data := .seq its.toArray n } = { cls := .type "list", data := .seq (its.set j u).toArray n } := by
  simp [Obj.mapSeq]
theorem Inv.lst {pins : List (Addr × Obj)} {σ : St} {H : Hp} {s : Shared} {p : Addr} {xs : List V} (I : Inv X pins σ H s) (h : H p = some (.lst xs)) :
    ∃ (its : List Value) (n : Nat), Vals xs its ∧ s.heap.get? p = some { cls := .type "list", data := .seq its.toArray n } ∧ xs.length ≤ sizeLine := by
  obtain ⟨z, its, n, r, e⟩ := I.hok p _ h
  exact ⟨its, n, r, e, z⟩
theorem Inv.lstUpd {pins : List (Addr × Obj)} {σ : St} {H : Hp} {s : Shared} {p : Addr} {xs ys : List V} {its its' : List Value} {n n' : Nat} {f : Obj → Obj} (I : Inv X pins σ H s) (h : H p = some (.lst xs))
    (ho : s.heap.get? p = some { cls := .type "list", data := .seq its.toArray n }) (hf : f { cls := .type "list", data := .seq its.toArray n } = { cls := .type "list", data := .seq its'.toArray n' }) (r : Vals ys its') (hz : ys.length ≤ sizeLine) (t : Nat) :
    Inv X pins σ (upd H p (.lst ys)) { s with heap := s.heap.update p f, toks := t } := by
  have e : (s.heap.update p f).get? p = some { cls := .type "list", data := .seq its'.toArray n' } := by
    rw [Heap.get?_update_self f ho (by rw [hf] <;> rfl), hf]
  refine I.write (x := p) (e := p) (by rw [h]; trivial) (.inl rfl) (fun b u hb q => (Heap.get?_update_other _ _ (Ne.symm hb)).trans q) ⟨_, e⟩ ?_
  exact ⟨hz, its', n', r, e⟩
noncomputable def rSetL : V → V → V → Hp → (Hp → Prop) → Prop := fun o i v H Q => ∃ p xs k j, o = .ref p ∧ i = .int k ∧ H p = some (.lst xs) ∧ ixN xs.length k = some j ∧ Q (upd H p (.lst (xs.set j v)))
theorem set_list : PSet X rSetL := by
  intro pins s σ H o i v ov iv u Q I ro ri rv h
  obtain ⟨p, xs, k, j, rfl, rfl, hp, hj, q⟩ := h
  cases ro
  obtain ⟨t, rfl⟩ := ri
  obtain ⟨its, n, r, ho, hz⟩ := I.lst hp
  obtain ⟨h1, h2, h3, h4⟩ := ixN_seq hj
  have hl := r.length
  have hn := line63
  have I' : Inv X pins σ (upd H p (.lst (xs.set j v))) { s with heap := s.heap.update p (Obj.mapSeq (·.setIfInBounds j u)) } :=
    I.lstUpd hp ho (mapSeq_set its n j u) (r.set rv j) (by rw [List.length_set]; exact hz) s.toks
  by_cases h0 : 0 ≤ k
  · have hk : k.toNat = j := by
      rw [seqIndex_of h0 h4] at h1
      exact Option.some.inj h1
    exact PySem.W.ki_setAt ho h0 (by lia) (by rw [List.size_toArray, ← hl]; exact h4) (by rw [hk]; exact ⟨_, I', q⟩)
  · have hk : (k + (its.toArray.size : Int)).toNat = j := by
      rw [seqIndex_neg (by lia) h3] at h1
      rw [List.size_toArray, ← hl]
      exact Option.some.inj h1
    exact PySem.W.ki_setBack ho (by lia) (by rw [List.size_toArray, ← hl]; exact h3) (by lia) (by rw [hk]; exact ⟨_, I', q⟩)
theorem slice_bounds (lo hi : Option Int) (n : Nat) : (sliceBounds lo hi none n).1 = ((HT.sIx n 0 lo : Nat) : Int) ∧ (sliceBounds lo hi none n).2.1 = ((HT.sIx n n hi : Nat) : Int) ∧ (sliceBounds lo hi none n).2.2 = 1 := by
  refine ⟨?_, ?_, rfl⟩
  · cases lo with
    | none => simp [sliceBounds, HT.sIx]
    | some i =>
      simp only [sliceBounds, HT.sIx, Option.getD_none, show (1 : Int) > 0 by decide, if_true]
      by_cases h : i < 0
      · simp only [h, if_true] <;> lia
      · simp only [h, if_false] <;> lia
  · cases hi with
    | none => simp [sliceBounds, HT.sIx]
    | some i =>
      simp only [sliceBounds, HT.sIx, Option.getD_none, show (1 : Int) > 0 by decide, if_true]
      by_cases h : i < 0
      · simp only [h, if_true] <;> lia
      · simp only [h, if_false] <;> lia
theorem slicePick_cut (its : List Value) (lo hi : Option Int) : slicePick its.toArray lo hi none = ((its.drop (HT.sIx its.length 0 lo)).take (HT.sIx its.length its.length hi - HT.sIx its.length 0 lo)).toArray := by
  obtain ⟨h1, h2, h3⟩ := slice_bounds lo hi its.toArray.size
  unfold slicePick
  rw [h1, h2, h3]
  simp only [sliceRange_one, pick_run, List.size_toArray] <;> rfl
noncomputable def rSlL (K : PySem.W.Frag) : V → Option Int → Option Int → Hp → VK → Prop := fun x lo hi H Q => ∃ a xs, x = .ref a ∧ SqL K H a xs ∧ ∀ p, H p = none → Q (.ref p) (upd H p (.lst (cutV xs lo hi)))
theorem sl_list : SlR X (rSlL X.K) := by
  intro pins s σ H x v vl vu lo hi sl Q I rx hs pl pu h
  obtain ⟨a, xs, rfl, hx, q⟩ := h
  cases rx
  obtain ⟨its, r, ht, hz⟩ := I.list hx
  have hlen := r.length
  refine ⟨"list", _, slot_list_getitem.lookup, ht.isList.typeIs, ?_⟩
  refine wpAny_getItem_list_slice ht.isList hs pl pu .none (by simp) ?_ (by rw [List.size_toArray] <;> lia)
  rw [slicePick_cut, ← hlen]
  refine ⟨.ref s.heap.objs.size, _, I.laid (t' := s.toks) (o := .lst (cutV xs lo hi)) (fun b ob q => Heap.get?_push_of_some _ q) (Nat.le_refl _) ?_, rfl, q _ (I.hok.fresh (Nat.le_refl _))⟩
  exact ⟨Nat.le_trans (cutV_length xs lo hi) hz, _, 0, (r.drop (HT.sIx xs.length 0 lo)).take (HT.sIx xs.length xs.length hi - HT.sIx xs.length 0 lo), Heap.get?_push_size _ rfl⟩
noncomputable def flatV : V → Bool
  | .non => true
  | .bl _ => true
  | .int _ => true
  | .str _ => true
  | _ => false
noncomputable def eqV : V → V → Bool
  | .non, .non => true
  | .bl a, .bl b => a == b
  | .bl a, .int b => (if a then 1 else 0) == b
  | .int a, .bl b => a == (if b then 1 else 0)
  | .int a, .int b => a == b
  | .str a, .str b => a == b
  | _, _ => false
theorem eqAt_V {A : Around} {s : Shared} {y x : V} {u v : Value} (ry : RelV y u) (rx : RelV x v) (fy : flatV y = true) (fx : flatV x = true) : SeqAt.EqAt A s u v (eqV y x) := by
  cases y with
  | non =>
    cases ry
    cases x with
    | non => cases rx; exact SeqAt.EqAt.same _
    | bl b => cases rx; exact SeqAt.EqAt.none_bool b
    | int b => obtain ⟨t, rfl⟩ := rx; exact SeqAt.EqAt.none_int b t
    | str b => obtain ⟨t, rfl⟩ := rx; exact SeqAt.EqAt.none_str b t
    | _ => exact absurd (show false = true from fx) Bool.false_ne_true
  | bl a =>
    cases ry
    cases x with
    | non => cases rx; exact SeqAt.EqAt.bool_none a
    | bl b => cases rx; exact SeqAt.EqAt.bool_bool a b
    | int b => obtain ⟨t, rfl⟩ := rx; exact SeqAt.EqAt.bool_int a b t
    | str b => obtain ⟨t, rfl⟩ := rx; exact SeqAt.EqAt.bool_str a b t
    | _ => exact absurd (show false = true from fx) Bool.false_ne_true
  | int a =>
    obtain ⟨t', rfl⟩ := ry
    cases x with
    | non => cases rx; exact SeqAt.EqAt.int_none a t'
    | bl b => cases rx; exact SeqAt.EqAt.int_bool a t' b
    | int b => obtain ⟨t, rfl⟩ := rx; exact SeqAt.EqAt.int_int a t' b t
    | str b => obtain ⟨t, rfl⟩ := rx; exact SeqAt.EqAt.int_str a t' b t
    | _ => exact absurd (show false = true from fx) Bool.false_ne_true
  | str a =>
    obtain ⟨t', rfl⟩ := ry
    cases x with
    | non => cases rx; exact SeqAt.EqAt.str_none a t'
    | bl b => cases rx; exact SeqAt.EqAt.str_bool a t' b
    | int b => obtain ⟨t, rfl⟩ := rx; exact SeqAt.EqAt.str_int a t' b t
    | str b => obtain ⟨t, rfl⟩ := rx; exact SeqAt.EqAt.str_str a t' b t
    | _ => exact absurd (show false = true from fx) Bool.false_ne_true
  | _ => exact absurd (show false = true from fy) Bool.false_ne_true
noncomputable def eqU (x : V) (u : Value) : Bool := match u with
  | .none => eqV .non x
  | .bool b => eqV (.bl b) x
  | .int i _ => eqV (.int i) x
  | .str z _ => eqV (.str z) x
  | _ => false
theorem eqU_of {x y : V} {u : Value} (r : RelV y u) (f : flatV y = true) : eqU x u = eqV y x := by
  cases y with
  | non => cases r; rfl
  | bl b => cases r; rfl
  | int i => obtain ⟨t, rfl⟩ := r; rfl
  | str z => obtain ⟨t, rfl⟩ := r; rfl
  | _ => exact absurd (show false = true from f) Bool.false_ne_true
theorem any_eqU {x : V} : ∀ {xs : List V} {us : List Value}, Vals xs us → xs.all flatV = true → us.any (eqU x) = xs.any fun y => eqV y x
  | _, _, .nil, _ => rfl
  | y :: xs, u :: us, .cons r t, f => by
    rw [List.all_cons, Bool.and_eq_true] at f
    rw [List.any_cons, List.any_cons, eqU_of r f.1, any_eqU t f.2]
theorem mem_eqAt {A : Around} {s : Shared} {x : V} {v : Value} (rx : RelV x v) (fx : flatV x = true) : ∀ {xs : List V} {us : List Value}, Vals xs us → xs.all flatV = true → ∀ u ∈ us, SeqAt.EqAt A s u v (eqU x u)
  | _, _, .nil, _ => fun u hu => by cases hu
  | y :: xs, u :: us, .cons r t, f => fun u' hu => by
    rw [List.all_cons, Bool.and_eq_true] at f
    rcases List.mem_cons.mp hu with rfl | hu
    · rw [eqU_of r f.1]; exact eqAt_V r rx f.1 fx
    · exact mem_eqAt rx fx t f.2 u' hu
noncomputable def inV (x : V) (xs : List V) : Bool := xs.any fun y => eqV y x
noncomputable def rIn (K : PySem.W.Frag) (neg : Bool) : R2 := fun x y H Q => ∃ p xs, y = .ref p ∧ (SqL K H p xs ∨ SqT K H p xs) ∧ flatV x = true ∧ xs.all flatV = true ∧ Q (.bl (if neg then !inV x xs else inV x xs)) H
theorem op_in_seq : OpR X (compareOp .In) (rIn X.K false) := by
  intro pins s σ H x y v u Q I rx ry h
  obtain ⟨p, xs, rfl, hq, fx, fs, q⟩ := h
  cases ry
  rcases hq with hq | hq
  · obtain ⟨its, r, pl, hz⟩ := I.list hq
    refine SeqAt.in_listAt (eqU x) pl.isList (fun w hw => mem_eqAt rx fx r fs w (by simpa using hw)) ⟨.bl _, H, I, rfl, ?_⟩
    rw [show its.toArray.any (eqU x) = its.any (eqU x) by simp, any_eqU r fs]
    exact q
  · obtain ⟨its, r, pl, hz⟩ := I.tuple hq
    refine SeqAt.in_tupleAt (eqU x) pl (fun w hw => mem_eqAt rx fx r fs w (by simpa using hw)) ⟨.bl _, H, I, rfl, ?_⟩
    rw [show its.toArray.any (eqU x) = its.any (eqU x) by simp, any_eqU r fs]
    exact q
theorem call_len_seq : CallR X (.builtin "len") (fun xs H Q => ∃ p ys, xs = [.ref p] ∧ (SqL X.K H p ys ∨ SqT X.K H p ys) ∧ Q (.int ys.length) H) := by
  intro pins s σ H xs us Q I r h
  obtain ⟨p, ys, rfl, hq, q⟩ := h
  obtain ⟨u, rfl, rx⟩ := vals1 r
  cases rx
  have hn := line63
  rcases hq with hq | hq
  · obtain ⟨its, r', pl, hz⟩ := I.list hq
    have hlen := r'.length
    exact Calls.call_len_list pl.isList (by simp only [List.size_toArray] <;> lia) ⟨.int ys.length, H, I.tok _, ⟨s.toks + 1, by rw [List.size_toArray, hlen]⟩, q⟩
  · obtain ⟨its, r', pl, hz⟩ := I.tuple hq
    have hlen := r'.length
    exact len_tuple pl (by simp only [List.size_toArray] <;> lia) ⟨.int ys.length, H, I.tok _, ⟨s.toks + 1, by rw [List.size_toArray, hlen]⟩, q⟩
theorem call_list_of : CallR X (.type "list") (fun xs H Q => ∃ p ys, xs = [.ref p] ∧ (SqL X.K H p ys ∨ SqT X.K H p ys) ∧ ∀ l, H l = none → Q (.ref l) (upd H l (.lst ys))) := by
  intro pins s σ H xs us Q I r h
  obtain ⟨p, ys, rfl, hq, q⟩ := h
  obtain ⟨u, rfl, rx⟩ := vals1 r
  cases rx
  have fin : ∀ (its : List Value), Vals ys its → ys.length ≤ sizeLine → ∀ (h' : Heap) (c' : Nat), (∀ b o', s.heap.get? b = some o' → h'.get? b = some o') →
      h'.get? s.heap.objs.size = some { cls := .type "list", dict := none, data := .seq its.toArray c', slots := #[] } → EP X pins σ Q (.ref s.heap.objs.size) { s with heap := h' } := fun its r' hz h' c' kp e =>
    ⟨.ref s.heap.objs.size, _, I.laid (t' := s.toks) kp (Nat.le_refl _) (show ObjOk X.prog X.w _ h' _ (.lst ys) from ⟨hz, its, c', r', e⟩), rfl, q _ (I.hok.fresh (Nat.le_refl _))⟩
  rcases hq with hq | hq
  · obtain ⟨its, r', pl, hz⟩ := I.list hq
    have hlen := r'.length
    obtain ⟨o, ho, hc, n, hd⟩ := pl.isList
    exact call_list_seq p (.inl rfl) ho hc hd (fun h' c' kp e => fin its r' hz h' c' kp e) (by simp only [List.size_toArray] <;> lia)
  · obtain ⟨its, r', pl, hz⟩ := I.tuple hq
    have hlen := r'.length
    obtain ⟨o, ho, hc, n, hd⟩ := pl
    exact call_list_seq p (.inr rfl) ho hc hd (fun h' c' kp e => fin its r' hz h' c' kp e) (by simp only [List.size_toArray] <;> lia)
noncomputable def tyV (K : PySem.W.Frag) (T : String) (x : V) (H : Hp) : Prop := match x with
  | .str _ => T = "str"
  | .int _ => T = "int"
  | .ref p => (T = "list" ∧ ∃ xs, SqL K H p xs) ∨ (T = "tuple" ∧ ∃ o, K.lookup p = some o ∧ o.cls = .type "tuple" ∧ o.dict = none) ∨
      (T = "dict" ∧ ((∃ kvs, H p = some (.dK kvs)) ∨ ∃ kvs, H p = some (.dT kvs))) ∨ (T = "set" ∧ ∃ S n, H p = some (.set S n))
  | _ => False
theorem tyV_is {pins : List (Addr × Obj)} {σ : St} {H : Hp} {s : Shared} {T : String} {x : V} {v : Value} (I : Inv X pins σ H s) (r : RelV x v) (ty : tyV X.K T x H) :
    s.TypeIs v T ∧ ∀ a, v = .ref a → ∃ ob, s.heap.get? a = some ob ∧ ob.dict = none := by
  cases x with
  | str z =>
    obtain ⟨t, rfl⟩ := r
    cases (show T = "str" from ty)
    exact ⟨typeIs_str s z t, fun _ e => nomatch e⟩
  | int i =>
    obtain ⟨t, rfl⟩ := r
    cases (show T = "int" from ty)
    exact ⟨typeIs_int s i t, fun _ e => nomatch e⟩
  | ref p =>
    cases r
    rcases ty with ⟨rfl, xs, hq⟩ | ⟨rfl, o, hk, hc, hd⟩ | ⟨rfl, hk⟩ | ⟨rfl, S, n, hk⟩
    · obtain ⟨its, _, pl, _⟩ := I.list hq
      refine ⟨pl.isList.typeIs, fun a e => ?_⟩
      cases e
      obtain ⟨o, n, e, c, hd, _⟩ := pl
      exact ⟨o, e, hd⟩
    · refine ⟨⟨o, I.kIn p o hk, hc⟩, fun a e => ?_⟩
      cases e
      exact ⟨o, I.kIn _ o hk, hd⟩
    · have z : ∃ o, s.heap.get? p = some o ∧ o.ExactDict := by
        rcases hk with ⟨kvs, hk⟩ | ⟨kvs, hk⟩
        · obtain ⟨_, _, _, _, o, _, _, e, ex, _⟩ := I.hok p _ hk
          exact ⟨o, e, ex⟩
        · obtain ⟨_, _, _, _, o, _, _, e, ex, _⟩ := I.hok p _ hk
          exact ⟨o, e, ex⟩
      obtain ⟨o, e, ex⟩ := z
      refine ⟨⟨o, e, ex.1⟩, fun a e2 => ?_⟩
      cases e2
      exact ⟨o, e, ex.2.1⟩
    · obtain ⟨o, _, _, _, e, ex, _⟩ := I.hok p _ hk
      refine ⟨⟨o, e, ex.1⟩, fun a e2 => ?_⟩
      cases e2
      exact ⟨o, e, ex.2.1⟩
  | _ => exact False.elim ty
noncomputable def tBM0 (K : PySem.W.Frag) (T : String) (r : V → List V → Hp → VK → Prop) (to : TE) : TE := fun σ H Q => to σ H fun x H1 => tyV K T x H1 ∧ r x [] H1 Q
noncomputable def tBM (K : PySem.W.Frag) (T : String) (r : V → List V → Hp → VK → Prop) (to : TE) (t : TA) : TE := fun σ H Q => to σ H fun x H1 => tyV K T x H1 ∧ t σ H1 fun xs H2 => r x xs H2 Q
variable {o e : Expr} {es : List Expr} {to : TE} {t : TA} {name : Str} {apos cpos : Pos} {T id : String} {r : V → List V → Hp → VK → Prop}
theorem pe_bm0 (pa : PlainAttrs T) (slot : Slot T name id) (hty : typeOf (.builtin id) = pure (.type "method_descriptor")) (hm : MtR X id r) (ho : PE X o to)
    (hbase : attributeBase o name X.env (eval o X.env) = eval o X.env := by rfl) (hline : (apos.endLine == cpos.line) = true := by rfl) : PE X (.Call (.Attribute o name apos) [] [] cpos) (tBM0 X.K T r to) := by
  intro pins s σ H Q I h
  refine wpAny_Call_method0_late hbase hline (thn (ho pins s σ H _ I h) fun v s1 hh => ?_)
  obtain ⟨x, H1, I1, r1, ty, q1⟩ := hh
  obtain ⟨h1, h2⟩ := tyV_is I1 r1 ty
  exact ⟨T, id, pa, slot, hty, h1, h2, Calls.callWith_builtin rfl (PySem.evalArgs_none (hm pins s1 σ H1 x [] v [] Q I1 r1 .nil q1))⟩
theorem pe_bm (pa : PlainAttrs T) (slot : Slot T name id) (hty : typeOf (.builtin id) = pure (.type "method_descriptor")) (hm : MtR X id r) (ho : PE X o to) (ha : PA X (e :: es) t)
    (hbase : attributeBase o name X.env (eval o X.env) = eval o X.env := by rfl)
    (hfew : ((backTo cpos (starEach (e :: es) X.env)).all (fun x => !x.1) && (backToKw cpos (keywordEach [] X.env)).all (fun x => x.1.isSome)
      && decide ((e :: es).length + ([] : List Keyword).length + (if ([] : List Keyword).isEmpty then 0 else 1) < 30)) = true := by rfl)
    (hline : (apos.endLine == cpos.line) = true := by rfl) (hs : starEach (e :: es) X.env = (false, eval e X.env) :: starEach es X.env := by rfl) (hplain : (backTo cpos (starEach es X.env)).any (·.1) = false := by rfl) :
    PE X (.Call (.Attribute o name apos) (e :: es) [] cpos) (tBM X.K T r to t) := by
  intro pins s σ H Q I h
  refine wpAny_Call_method_late hbase hfew hline rfl (thn (ho pins s σ H _ I h) fun v s1 hh => ?_)
  obtain ⟨x, H1, I1, r1, ty, q1⟩ := hh
  obtain ⟨h1, h2⟩ := tyV_is I1 r1 ty
  refine ⟨T, id, pa, slot, hty, h1, h2, ?_⟩
  have hA := ha cpos pins s1 σ H1 _ I1 q1
  rw [hs] at hA ⊢
  refine Calls.callWith_builtin (by show (false || (backTo cpos (starEach es X.env)).any (·.1)) = false; rw [hplain] <;> rfl) (Calls.evalArgs_plain ?_)
  exact thn hA fun us s2 ⟨vs, H2, I2, r2, q2⟩ => hm pins s2 σ H2 x vs v us Q I2 r1 r2 q2
end
end L2
namespace L2
open PySem PySem.Spec PyProof.Rows
noncomputable def MtM (X : Cx) (id : String) (r : V → List V → Hp → VK → Prop) : Prop :=
  ∀ (pins : List (Addr × Obj)) (s : Shared) (σ : St) (H : Hp) (x : V) (xs : List V) (v : Value) (us : List Value) (Q : VK), Inv X pins σ H s → RelV x v → Vals xs us → r x xs H Q →
    wpAny (model X.prog X.w) X.A (call (.builtin id) (v :: us)) (EP X pins σ Q) X.xe s
theorem Vals.one {x : V} {us : List Value} (h : Vals [x] us) : ∃ u, us = [u] ∧ RelV x u := by
  cases h with
  | cons r t => cases t; exact ⟨_, rfl, r⟩
theorem Vals.two {x y : V} {us : List Value} (h : Vals [x, y] us) : ∃ u v, us = [u, v] ∧ RelV x u ∧ RelV y v := by
  cases h with
  | cons r t =>
    cases t with
    | cons q t => cases t; exact ⟨_, _, rfl, r, q⟩
theorem Vals.zero : ∀ {us : List Value}, Vals [] us → us = []
  | _, .nil => rfl
theorem Vals.eraseIdx : ∀ {xs : List V} {us : List Value} (i : Nat), Vals xs us → Vals (xs.eraseIdx i) (us.eraseIdx i)
  | _, _, _, .nil => .nil
  | _, _, 0, .cons _ t => t
  | _, _, i + 1, .cons r t => .cons r (Vals.eraseIdx i t)
theorem Vals.rep {xs : List V} {us : List Value} (h : Vals xs us) : ∀ k : Nat, Vals (List.replicate k xs).flatten (List.replicate k us).flatten
  | 0 => .nil
  | k + 1 => by
    rw [List.replicate_succ, List.replicate_succ, List.flatten_cons, List.flatten_cons]
    exact Vals.append h (Vals.rep h k)
theorem len_erase {α : Type} : ∀ (l : List α) (i : Nat), (l.eraseIdx i).length ≤ l.length
  | [], _ => Nat.le_refl _
  | _ :: _, 0 => Nat.le_succ _
  | _ :: r, i + 1 => Nat.succ_le_succ (len_erase r i)
theorem foldl_rep (its : List Value) : ∀ (k : Nat) (acc : List Value),
    List.foldl (fun x1 x2 => x1 ++ x2) acc.toArray (List.replicate k its.toArray) = (acc ++ (List.replicate k its).flatten).toArray
  | 0, acc => by simp
  | k + 1, acc => by
    have e : acc.toArray ++ its.toArray = (acc ++ its).toArray := by simp
    have e2 : (acc ++ its) ++ (List.replicate k its).flatten = acc ++ (List.replicate (k + 1) its).flatten := by
      rw [List.replicate_succ, List.flatten_cons, List.append_assoc]
    rw [← e2, ← foldl_rep its k (acc ++ its), ← e, List.replicate_succ, List.foldl_cons]
section
variable {X : Cx} {pins : List (Addr × Obj)} {σ : St} {H : Hp} {s : Shared} {l b : Addr} {xs ys zs : List V}
theorem Inv.lset {its its' : List Value} {n : Nat} {f : Array Value → Array Value} {t' : Nat} (I : Inv X pins σ H s) (hH : H l = some (.lst xs))
    (e : s.heap.get? l = some { cls := .type "list", data := .seq its.toArray n }) (hf : f its.toArray = its'.toArray) (hv : Vals ys its') (hz : ys.length ≤ sizeLine) :
    Inv X pins σ (upd H l (.lst ys)) { s with heap := s.heap.update l (Obj.mapSeq f), toks := t' } := by
  have q := PySem.IsL.update e f
  rw [hf] at q
  refine I.write (x := l) (e := l) (by rw [hH]; exact trivial) (.inl rfl) (fun b' u hb hu => (Heap.get?_update_other s.heap (Obj.mapSeq f) (Ne.symm hb)).trans hu) ⟨_, q⟩ ?_
  exact ⟨hz, its', _, hv, q⟩
theorem Inv.lnew {its : List Value} {t' : Nat} (I : Inv X pins σ H s) (hv : Vals ys its) (hz : ys.length ≤ sizeLine) :
    Inv X pins σ (upd H s.heap.objs.size (.lst ys)) { s with heap := s.heap.push { cls := .type "list", data := .seq its.toArray }, toks := t' } :=
  I.laid (fun _ _ q => Heap.get?_push_of_some _ q) (Nat.le_refl _) ⟨hz, its, 0, hv, Heap.get?_push_size _ rfl⟩
theorem Inv.fresh (I : Inv X pins σ H s) : H s.heap.objs.size = none := I.hok.fresh (Nat.le_refl _)
theorem Inv.lstM (I : Inv X pins σ H s) (hH : H l = some (.lst xs)) : xs.length ≤ sizeLine ∧ ∃ (its : List Value) (n : Nat), Vals xs its ∧ xs.length = its.length ∧ s.heap.get? l = some { cls := .type "list", data := .seq its.toArray n } := by
  obtain ⟨z, its, n, r, e⟩ := I.hok l _ hH
  exact ⟨z, its, n, r, r.length, e⟩
theorem notLongL {n : Nat} (h : n ≤ sizeLine) : Builtin.List.listTooLong n = false := by
  unfold Builtin.List.listTooLong
  exact decide_eq_false (by lia)
end
section
variable {X : Cx}
noncomputable def rAppend : V → List V → Hp → VK → Prop := fun x vs H Q => ∃ l xs y, x = .ref l ∧ vs = [y] ∧ H l = some (.lst xs) ∧ xs.length < sizeLine ∧ Q .non (upd H l (.lst (xs ++ [y])))
theorem mt_append : MtM X "list.append" rAppend := by
  intro pins s σ H x vs v us Q I rx rv h
  obtain ⟨l, xs, y, rfl, rfl, hH, hz, q⟩ := h
  cases rx
  obtain ⟨u, rfl, ru⟩ := rv.one
  obtain ⟨z, its, n, r, hl, e⟩ := I.lstM hH
  refine call_meets F.slot_list_append ⟨_, e, rfl⟩ F.entry_list_append (F.args_list_append_2 _ _) (PySem.list_append l its.toArray n u (by rw [List.size_toArray]; lia)) ⟨e, ?_⟩
  refine ⟨.non, _, I.lset (its' := its ++ [u]) hH e (by simp) (r.append (.cons ru .nil)) ?_, rfl, q⟩
  rw [List.length_append, List.length_singleton]
  lia
noncomputable def rExtend : V → List V → Hp → VK → Prop := fun x vs H Q => ∃ l b xs zs, x = .ref l ∧ vs = [.ref b] ∧ H l = some (.lst xs) ∧ H b = some (.lst zs) ∧ xs.length + zs.length ≤ sizeLine ∧ Q .non (upd H l (.lst (xs ++ zs)))
theorem mt_extend : MtM X "list.extend" rExtend := by
  intro pins s σ H x vs v us Q I rx rv h
  obtain ⟨l, b, xs, zs, rfl, rfl, hH, hB, hz, q⟩ := h
  cases rx
  obtain ⟨u, rfl, ru⟩ := rv.one
  cases ru
  obtain ⟨z, its, n, r, hl, e⟩ := I.lstM hH
  obtain ⟨z2, its2, n2, r2, hl2, e2⟩ := I.lstM hB
  have hsz : its.toArray.size + its2.toArray.size ≤ sizeLine := by rw [List.size_toArray, List.size_toArray]; lia
  have hlong : ¬ (!its.toArray.isEmpty && Builtin.List.listTooLong (its.toArray.size + its2.toArray.size)) = true := by
    rw [notLongL hsz, Bool.and_false]
    exact Bool.false_ne_true
  refine call_meets F.slot_list_extend ⟨_, e, rfl⟩ F.entry_list_extend (F.args_list_extend_2 _ _)
    (AutoSeq1.list_extend_list_list_0 l its.toArray n b its2.toArray n2 hlong (by rw [List.size_toArray]; lia) (by lia)) ⟨e, e2, ?_⟩
  refine ⟨.non, _, I.lset (its' := its ++ its2) hH e (by simp) (r.append r2) ?_, rfl, q⟩
  rw [List.length_append]
  lia
noncomputable def rPopAt : V → List V → Hp → VK → Prop := fun x vs H Q => ∃ l xs i k y, x = .ref l ∧ vs = [.int i] ∧ H l = some (.lst xs) ∧ -(2 ^ 63) ≤ i ∧ i < 2 ^ 63 ∧ seqIndex? i xs.length = some k ∧ xs[k]? = some y ∧ Q y (upd H l (.lst (xs.eraseIdx k)))
theorem mt_popAt : MtM X "list.pop" rPopAt := by
  intro pins s σ H x vs v us Q I rx rv h
  obtain ⟨l, xs, i, k, y, rfl, rfl, hH, h1, h2, hk, hy, q⟩ := h
  cases rx
  obtain ⟨u, rfl, ru⟩ := rv.one
  obtain ⟨t, rfl⟩ := ru
  obtain ⟨z, its, n, r, hl, e⟩ := I.lstM hH
  obtain ⟨w, hw, rw'⟩ := r.get hy
  refine call_meets F.slot_list_pop ⟨_, e, rfl⟩ F.entry_list_pop (F.args_list_pop_2 _ _)
    (MeetsSeq.list_pop_at l its.toArray n i t k w (fitsIndex_both h1 h2) (by rw [List.size_toArray, ← hl]; exact hk) (by rw [← Array.getElem?_toList]; exact hw) (by rw [List.size_toArray]; lia)) ⟨e, ?_⟩
  refine ⟨y, _, I.lset (its' := its.eraseIdx k) hH e ?_ (r.eraseIdx k) ?_, rw', q⟩
  · show its.toArray.eraseIdxIfInBounds k = (its.eraseIdx k).toArray
    rw [List.eraseIdxIfInBounds_toArray]
  · have := len_erase xs k
    lia
noncomputable def rClear : V → List V → Hp → VK → Prop := fun x vs H Q => ∃ l xs, x = .ref l ∧ vs = [] ∧ H l = some (.lst xs) ∧ Q .non (upd H l (.lst []))
theorem mt_clear : MtM X "list.clear" rClear := by
  intro pins s σ H x vs v us Q I rx rv h
  obtain ⟨l, xs, rfl, rfl, hH, q⟩ := h
  cases rx
  have hus := rv.zero
  subst hus
  obtain ⟨z, its, n, r, hl, e⟩ := I.lstM hH
  refine call_meets F.slot_list_clear ⟨_, e, rfl⟩ F.entry_list_clear (F.args_list_clear_1 _) (AutoSeq1.list_clear_list_0 l its.toArray n (by rw [List.size_toArray]; lia)) ⟨e, ?_⟩
  exact ⟨.non, _, I.lset (its' := []) (ys := []) hH e rfl .nil (Nat.zero_le _), rfl, q⟩
noncomputable def rCat : R2 := fun x y H Q => ∃ l b xs zs, x = .ref l ∧ y = .ref b ∧ H l = some (.lst xs) ∧ H b = some (.lst zs) ∧ xs.length + zs.length ≤ sizeLine ∧ ∀ p, H p = none → Q (.ref p) (upd H p (.lst (xs ++ zs)))
theorem op_cat : OpR X (binaryOp .Add) rCat := by
  intro pins s σ H x y v u Q I rx ry h
  obtain ⟨l, b, xs, zs, rfl, rfl, hH, hB, hz, q⟩ := h
  cases rx
  cases ry
  obtain ⟨z, its, n, r, hl, e⟩ := I.lstM hH
  obtain ⟨z2, its2, n2, r2, hl2, e2⟩ := I.lstM hB
  refine PySem.P.add_list e e2 ?_ (by rw [List.size_toArray, List.size_toArray]; lia)
  have ea : its.toArray ++ its2.toArray = (its ++ its2).toArray := by simp
  rw [ea]
  exact ⟨.ref _, _, I.lnew (t' := s.toks) (r.append r2) (by rw [List.length_append]; lia), rfl, q _ I.fresh⟩
noncomputable def rRep : R2 := fun x y H Q => ∃ l k xs, x = .ref l ∧ y = .int k ∧ H l = some (.lst xs) ∧ -(2 ^ 63) ≤ k ∧ k < 2 ^ 63 ∧ xs.length * k.toNat ≤ sizeLine ∧
  ∀ p, H p = none → Q (.ref p) (upd H p (.lst (List.replicate k.toNat xs).flatten))
theorem len_rep {α : Type} (xs : List α) (k : Nat) : (List.replicate k xs).flatten.length = k * xs.length := by
  induction k with
  | zero => simp
  | succ k ih => rw [List.replicate_succ, List.flatten_cons, List.length_append, ih, Nat.succ_mul, Nat.add_comm]
theorem op_rep : OpR X (binaryOp .Mult) rRep := by
  intro pins s σ H x y v u Q I rx ry h
  obtain ⟨l, k, xs, rfl, rfl, hH, h1, h2, hz, q⟩ := h
  cases rx
  obtain ⟨t, rfl⟩ := ry
  obtain ⟨z, its, n, r, hl, e⟩ := I.lstM hH
  have hlen : its.toArray.size * k.toNat ≤ sizeLine := by rw [List.size_toArray, ← hl]; exact hz
  have hcap : ¬ its.toArray.size * k.toNat > (2 ^ 63 - 1) / 8 := by
    have : (sizeLine : Nat) ≤ (2 ^ 63 - 1) / 8 := by decide
    lia
  have hfit : ¬ (!Builtin.List.listFitsIndex k) = true := by
    rw [fitsIndex_both h1 h2]
    exact Bool.false_ne_true
  have hlong : ¬ Builtin.List.listTooLong (its.toArray.size * k.toNat) = true := by
    rw [notLongL hlen]
    exact Bool.false_ne_true
  have hnew : List.foldl (fun x1 x2 => x1 ++ x2) #[] (List.replicate (if its.toArray.isEmpty = true then 0 else k.toNat) its.toArray) = (List.replicate k.toNat its).flatten.toArray := by
    have f0 : ∀ m : Nat, List.foldl (fun x1 x2 => x1 ++ x2) #[] (List.replicate m its.toArray) = (List.replicate m its).flatten.toArray := fun m => by
      have := foldl_rep its m []
      rw [List.nil_append] at this
      exact this
    rw [f0]
    cases its with
    | nil => simp
    | cons a r' => rw [if_neg (by simp)]
  refine wpAny_binaryOp_repeat_ref (T := "list") (U := "int") (by decide) ⟨_, e, rfl⟩ (fun s' => typeIs_int s' k t) noFill_list_mul F.fills_int_mul F.slot_int_rmul repeat_list F.slot_int_index.lookup
    (call_meets F.slot_int_rmul (typeIs_int s k t) F.entry_int_rmul (F.args_int_rmul_2 _ _) (int___rmul___int_list k t l its.toArray n)
      ⟨e, rfl, ⟨_, e, rfl⟩, call_meets F.slot_list_mul ⟨_, e, rfl⟩ F.entry_list_mul (F.args_list_mul_2 _ _) (AutoListH.list___mul___list_int_3 l its.toArray n k t hfit hcap hlong) ⟨e, ?_⟩⟩)
  rw [hnew]
  exact ⟨.ref _, _, I.lnew (t' := s.toks) (r.rep k.toNat) (by rw [len_rep, Nat.mul_comm]; exact hz), rfl, q _ I.fresh⟩
end
section
variable {prog : Program} {w : World} {A : Around} {E : Value → Shared → Prop} {s : Shared}
end
section
variable {X : Cx}
end
end L2
namespace Att
open PySem PySem.W PySem.Calls PyProof.Rows
theorem ints_of_wellAll {P : Params} {h : Heap} : ∀ (ns : List Int) (vs : List Value), WellAll P h vs (ns.map WData.int) → IntsAre vs ns := by
  intro ns
  induction ns with
  | nil =>
    intro vs w
    rw [List.map_nil] at w
    cases w
    exact .nil
  | cons n ns ih =>
    intro vs w
    rw [List.map_cons] at w
    cases w with
    | cons a b =>
      cases a
      exact .cons _ _ (ih _ b)
theorem script_of {l : OpenLaw} {n : Nat} (hn : l.most = some n) {P : Params} {h : Heap} {args : List WData} {vals : List Value}
    (hpre : l.row.toRowW.claim.pre args = true) (hwl : WellAll P h vals args) :
    ∃ a vs ns, vals = [Value.ref a] ∧ args = [WData.list (ns.map WData.int)] ∧ h.get? a = some { cls := .type "list", data := .seq vs.toArray } ∧ IntsAre vs ns ∧ ns.length ≤ n := by
  have hsh : WShape.hasAll [] args [.list .int] = true := (pre_splitW hpre).1
  have hc : l.pre.holds [] { args := args } = true := (pre_splitW hpre).2
  obtain ⟨d, r, rfl, h1, h2⟩ := hasAllW_cons hsh
  obtain rfl := hasAllW_nil h2
  obtain ⟨xs, rfl, h3⟩ := hasW_list h1
  obtain ⟨ns, rfl⟩ := items_int h3
  have hlen : ns.length ≤ n := by
    unfold OpenLaw.pre at hc
    have h4 : (WTm.not (.lt (.lit (.int (n : Int))) (.len (.arg 0)))).holds [] { args := [.list (ns.map .int)] } = true := by
      have h4 := (holds_andW hc).1
      rw [hn] at h4
      exact h4
    have h5 := condW_of h4 (w_not (w_lt w_lit (w_len_list (w_arg rfl))))
    rw [List.length_map] at h5
    refine Nat.le_of_not_lt fun q => ?_
    have q' : (n : Int) < ((ns.length : Nat) : Int) := by lia
    first
      | (rw [decide_eq_true q'] at h5; exact absurd h5 (by decide))
      | (simp at h5; lia)
  cases hwl with
  | cons w1 w2 =>
    cases w2
    cases w1 with
    | list ho hall => exact ⟨_, _, ns, rfl, rfl, ho, ints_of_wellAll ns _ hall, hlen⟩
theorem post_true (l : OpenLaw) (args : List WData) : l.row.toRowW.claim.post args (.bool true) args = true :=
  postW_of (r := l.row.toRowW) (X := (true == true))
    (show WShape.has [] (.bool true) .bool = true by first | rfl | decide | simp [WShape.has, WShape.arms, WShape.armsAll])
    (show (WTm.eq .res (.lit (.bool true))).value [] { args := args, res := some (.bool true), after := args } = some (.bool (true == true)) from w_eq_bool (w_res rfl) w_lit) rfl
theorem attach_call {l : OpenLaw} {n : Nat} {q : Program} {loose : List Str} {XP : (Str → Option Value) → Heap → Prop} {YP : World → Heap → Prop} {d : DefRec}
    (hn : l.most = some n) (hdf : d.params.defaults = [])
    (call : ∀ (w : World) (s₀ s₁ : Shared) (mg mb : Str → Option Value) (fa : Addr) (o : Obj) (pm cd doc : Value) (a : Addr) (vs : List Value) (ns : List Int),
      Ground q loose [] XP w s₀ mg mb s₁.heap → YP w s₁.heap →
      s₁.heap.get? fa = some o → o.data = .func (docDef d.name d.params d.body d.scope pm cd doc) → s₁.heap.CodeRec cd d.name → mg d.name = some (.ref fa) →
      s₁.heap.get? a = some { cls := .type "list", data := .seq vs.toArray } → IntsAre vs ns → ns.length ≤ n → s₁.gens = #[] →
      codeAny (model l.prog w) callerA (.call (.ref fa) ⟨[.ref a], []⟩) (fun r s' => r = .ok (.ret (.bool true)) ∧ OldK s₁.heap s'.heap ∧ s'.os = s₁.os ∧ AllBare s'.gens) s₁) :
    WalkO q loose XP YP l.row.toRowW d [] (fun f vs => PySem.call f vs) := by
  intro w s₀ s₁ mg mb G Y fa o pm cd doc dV kV ho hd hcd hD hmg hg args vals as hpre hlay hrd hwl hlo
  obtain rfl : dV = .none := Dflts.none hD hdf
  obtain rfl : kV = .none := Dflts.noKw hD
  obtain ⟨a, vs, ns, rfl, rfl, hobj, hints, hlen⟩ := script_of hn hpre hwl
  refine enter_call (codeAny_mono (call w s₀ s₁ mg mb fa o pm cd doc a vs ns G Y ho (fd_plain hd) hcd hmg hobj hints hlen hg) fun r s' hq => ?_)
  obtain ⟨rfl, h2, h3, h4⟩ := hq
  exact ⟨.inl ⟨.bool true, .bool true, [], rfl, fun _ => rfl, .bool true, post_true l _, fun _ => ⟨List.Pairwise.nil, fun _ hm => (nomatch hm)⟩⟩, h2, h3, h4⟩
section
variable {prog : Program} {w : World} {A : Around} {E : Value → Shared → Prop} {s : Shared} {K : Frag}
end
end Att
namespace L2
open PySem PySem.Spec PyProof.Rows
theorem vals_ints : ∀ {vs : List Value} {ns : List Int}, IntsAre vs ns → Vals (ns.map V.int) vs
  | _, _, .nil => .nil
  | _, _, .cons n t h => .cons ⟨t, rfl⟩ (vals_ints h)
noncomputable def Only (H : Hp) : Prop := ∀ b, H b = none ∨ ∃ o xs, H b = some (.frz o (.lst xs))
theorem law_call {P : Program} {w : World} {K : PySem.W.Frag} {mg mb : Str → Option Value} {CX : CXT} {k : Nat} {fa a : Addr} {fd : FuncData} {x : Str} {sp : Sp} {s₁ : Shared} {vs : List Value} {ns : List Int}
    (KX : K.In s₁.heap) (hns : s₁.heap.Ns mainGlobals mg) (hb : s₁.heap.Ns builtinsNs mb) (hbb : ∀ x : Str, x ≠ "__name__" → mb x = bootBuiltins x) (hlim : s₁.heap.NoLimit) (hg : s₁.gens = #[])
    (ha : s₁.heap.get? a = some { cls := .type "list", data := .seq vs.toArray }) (hi : IntsAre vs ns) (hl : ns.length ≤ sizeLine) (hr : Room k callerA)
    (F : ∀ base : Heap, K.In base → base.Ns mainGlobals mg → FnOk P w K mg base CX k fa fd [x] sp) (hbind : ∀ (s : Shared) (u : Value), BindsTo s fd ⟨[u], []⟩ [(x, u)])
    (hsp : ∀ H : Hp, Only H → SqL K H a (ns.map V.int) → sp [.ref a] H (fun v _ => v = .bl true) fun _ _ _ => False)
    (hCX : ∀ H e s', CX [] H s₁ (fun _ _ _ => False) e s' → False) :
    codeAny (model P w) callerA (.call (.ref fa) ⟨[.ref a], []⟩) (fun r s' => r = .ok (.ret (.bool true)) ∧ OldK s₁.heap s'.heap ∧ s'.os = s₁.os ∧ AllBare s'.gens) s₁ := by
  have rv := vals_ints hi
  have lenV := hi.length
  -- from an abstract heap in which nothing but the script may be tracked
  have core : ∀ H : Hp, Only H → SqL K H a (ns.map V.int) → HOk P w H s₁.heap → (∀ b, H b ≠ none → b = a) → (H a ≠ none → K.lookup a = none) →
      codeAny (model P w) callerA (.call (.ref fa) ⟨[.ref a], []⟩) (fun r s' => r = .ok (.ret (.bool true)) ∧ OldK s₁.heap s'.heap ∧ s'.os = s₁.os ∧ AllBare s'.gens) s₁ := by
    intro H hO hS hok hA hK
    have base_of : ∀ {b : Addr} {o : Obj}, s₁.heap.get? b = some o → H b = none → (hidT s₁.heap H).get? b = some o := fun e n => hidT_get e n
    have noA : ∀ {b : Addr} {o : Obj} {es : Array DictEntry} {ep : Nat}, s₁.heap.get? b = some o → o.data = .dict es ep → H b = none := fun {b o es ep} e d => by
      cases q : H b with
      | none => rfl
      | some u =>
        have e' : b = a := hA b (by rw [q]; simp)
        subst e'
        rw [ha] at e; cases e
        have d' : Data.seq vs.toArray _ = Data.dict es ep := d
        cases d'
    have nsK : ∀ {b : Addr} {m : Str → Option Value}, s₁.heap.Ns b m → (hidT s₁.heap H).Ns b m := fun {b m} ⟨o, es, ep, e, d, r⟩ => ⟨o, es, ep, base_of e (noA e d), d, r⟩
    have hKb : K.In (hidT s₁.heap H) := fun b o e => base_of (KX b o e) (by
      cases q : H b with
      | none => rfl
      | some u =>
        have e' : b = a := hA b (by rw [q]; simp)
        subst e'
        rw [hK (by rw [q]; simp)] at e; cases e)
    have hM : Mod K mg (hidT s₁.heap H) := ⟨hKb, nsK hns, ⟨mb, nsK hb, hbb⟩, let ⟨mc, h1, h2⟩ := hlim; ⟨mc, nsK h1, h2⟩⟩
    have e0 : Env0 P w K mg (hidT s₁.heap H) callerA [] s₁ H := ⟨rfl, hM, fun b o e => of_hidT e, Nat.le_of_eq (hidT_size _ _), trivial, fun b hb => absurd (show b ∈ ([] : List Addr) from hb) (by simp), hok, .of_eq hg⟩
    refine codeAny_mono ((F _ hKb (nsK hns)).run callerA [] s₁ H ⟨[.ref a], []⟩ [.ref a] [.ref a] _ _ hr e0 (hbind s₁ (.ref a)) (.cons rfl .nil) (hsp H hO hS)) fun r s' h => ?_
    cases r with
    | error e => exact (hCX H e s' h).elim
    | ok fl =>
      cases fl with
      | next => exact False.elim h
      | brk => exact False.elim h
      | cont => exact False.elim h
      | ret u =>
        obtain ⟨v, H', os, bare, un, hok', r', q⟩ := h
        have q' : v = .bl true := q
        subst q'
        obtain rfl : u = Value.bool true := r'
        refine ⟨rfl, OldK.of_keep fun b o e => ?_, os, bare⟩
        cases q : H b with
        | none => exact un.keep b o e q (by intro z; exact absurd (show b ∈ ([] : List Addr) from z) (by simp)) (by simp)
        | some u =>
          rcases hO b with z | ⟨ob, xs, z⟩
          · rw [q] at z; cases z
          · have z2 := un.frzs b ob _ z
            obtain ⟨e1, _⟩ := hok b _ z
            obtain ⟨e2, _⟩ := hok' b _ z2
            rw [e] at e1; cases e1
            exact e2
  cases hk : K.lookup a with
  | some o =>
    -- the script is one of the module's own objects
    have e := KX a o hk
    rw [ha] at e
    cases e
    refine core (fun _ => none) (fun _ => .inl rfl) (.inr ⟨_, vs.toArray, _, hk, rfl, rfl, rfl, by rw [List.size_toArray, lenV]; exact hl, by simpa using rv⟩) (fun b u z => by have z' : (none : Option HO) = some u := z; cases z') (fun b z => absurd rfl z) fun z => absurd rfl z
  | none =>
    refine core (fun b => if b = a then some (.frz { cls := .type "list", data := .seq vs.toArray } (.lst (ns.map V.int))) else none) (fun b => ?_) (.inl (.inr ⟨{ cls := .type "list", data := .seq vs.toArray }, if_pos rfl⟩)) (fun b u z => ?_) (fun b z => ?_) fun _ => hk
    · by_cases hb : b = a
      · exact .inr ⟨_, _, if_pos hb⟩
      · exact .inl (if_neg hb)
    · by_cases hb : b = a
      · have z' := (if_pos hb).symm.trans z
        cases z'
        subst hb
        exact ⟨ha, by rw [List.length_map]; exact hl, vs, _, rv, ha⟩
      · have z' := (if_neg hb).symm.trans z
        cases z'
    · by_cases hb : b = a
      · exact hb
      · exact absurd (if_neg hb) z
end L2
namespace L2
open PySem PySem.Spec PyProof.Rows
theorem walk_of {l : PySem.W.OpenLaw} {n k : Nat} {q : Program} {loose : List Str} {XP : (Str → Option Value) → Heap → Prop} {YP : World → Heap → Prop} {d : DefRec} {K : Params → PySem.W.Frag} {CX : World → CXT} {sp : World → Sp} {x : Str}
    (hn : l.most = some n) (hn2 : n ≤ sizeLine) (hdf : d.params.defaults = []) (hr : Room k callerA)
    (hY : ∀ (w : World) (h : Heap), YP w h → (K w.params).In h)
    (F : ∀ (w : World) (mg : Str → Option Value) (fa : Addr) (h : Heap), (K w.params).In h → h.Ns mainGlobals mg → mg d.name = some (.ref fa) →
      ∃ fd : FuncData, (∀ (s : Shared) (u : Value), BindsTo s fd ⟨[u], []⟩ [(x, u)]) ∧
        ∀ base : Heap, (K w.params).In base → base.Ns mainGlobals mg → FnOk l.prog w (K w.params) mg base (CX w) k fa fd [x] (sp w))
    (hsp : ∀ (w : World) (H : Hp) (a : Addr) (ns : List Int), ns.length ≤ n → Only H → SqL (K w.params) H a (ns.map V.int) → sp w [.ref a] H (fun v _ => v = .bl true) fun _ _ _ => False)
    (hCX : ∀ (w : World) (H : Hp) (s : Shared) (e : Value) (s' : Shared), CX w [] H s (fun _ _ _ => False) e s' → False) :
    PySem.W.WalkO q loose XP YP l.row.toRowW d [] (fun f vs => PySem.call f vs) := by
  refine Att.attach_call hn hdf fun w s₀ s₁ mg mb fa o pm cd doc a vs ns G Y ho hd hcd hmg hobj hints hlen hg => ?_
  have KX := hY w _ Y
  obtain ⟨fd, hb, hF⟩ := F w mg fa _ KX G.T.g hmg
  exact law_call KX G.T.g G.T.b G.T.builtins G.T.nolimit hg hobj hints (Nat.le_trans hlen hn2) hr hF hb (fun H hO hS => hsp w H a ns hlen hO hS) fun H e s' => hCX w H s₁ e s'
end L2
namespace L2
open PySem PySem.Spec PyProof.Rows
noncomputable def defArgs (s : Stmt) : Arguments := match s with
  | .FunctionDef _ a _ _ _ _ _ _ _ _ => a
  | _ => { posonlyargs := [], args := [], vararg := none, kwonlyargs := [], kw_defaults := [], kwarg := none, defaults := [] }
noncomputable def defBody (s : Stmt) : List Stmt := match s with
  | .FunctionDef _ _ b _ _ _ _ _ _ _ => b
  | _ => []
noncomputable def defScope (s : Stmt) : Scope := match s with
  | .FunctionDef _ _ _ _ _ _ sc _ _ _ => sc
  | _ => { kind := .function, names := [], isGenerator := false, isCoroutine := false }
noncomputable abbrev CX0 : CXT := fun _ _ _ _ _ _ => False
noncomputable abbrev E0 : XK := fun _ _ _ => False
theorem pass0 {X : Cx} : Passes CX0 X E0 := fun _ _ _ _ _ _ _ h => h.elim
structure Fun (K : PySem.W.Frag) (x qual : Str) (st : Stmt) (f : Addr) (fd : FuncData) : Prop where
  ex : ∃ (oc : Value) (od : Option Addr) (kV doc pm : Value) (an : Option Addr) (cdv ct : Value) (osl : Array (Option Value)),
    fd = PySem.W.fnOf x qual (defArgs st) (defBody st) (defScope st) .none kV doc pm an cdv ct ∧ K.lookup f = some ⟨oc, od, .func fd, osl⟩ ∧ PySem.W.codeIn K cdv qual = true
  kp : PySem.W.keepIn K (.ref f) = true
section
variable {P : Program} {w : World} {K : PySem.W.Frag} {mg : Str → Option Value} {base : Heap}
theorem Fun.ok {x qual : Str} {st : Stmt} {f : Addr} {fd : FuncData} {N ps : List Str} {k : Nat} {sp : Sp} (F : Fun K x qual st f fd) (S : FnScope N ps (defScope st)) (len : ∀ vs H Q E, sp vs H Q E → vs.length = ps.length)
    (hbody : ∀ (cdv : Value) (A : Around) (outer : List Env) (s : Shared) (H : Hp) (vs : List V) (Q : VK) (E : XK), Room k (A.deeper (envOfC qual (defScope st) s.heap.objs.size f cdv)) → sp vs H Q E →
      ∃ t, PSs (cxOf CX0 P w K mg base N qual (defScope st) f cdv A outer s H E).nox (defBody st) t ∧ t { nx := fun _ H' => Q .non H', rt := Q } (start N vs) H) : FnOk P w K mg base CX0 (k + 1) f fd ps sp := by
  obtain ⟨oc, od, kV, doc, pm, an, cdv, ct, osl, rfl, lk, hcd⟩ := F.ex
  refine fn_of lk hcd S len fun A outer s H vs Q E hr hsp => ?_
  obtain ⟨t, h, q⟩ := hbody cdv A outer s H vs Q E hr hsp
  exact ⟨t, h.nox, q⟩
theorem Fun.binds {x qual : Str} {st : Stmt} {f : Addr} {fd : FuncData} {ps : List Str} (F : Fun K x qual st f fd)
    (h : ∀ (kV doc pm : Value) (an : Option Addr) (cdv ct : Value) (us : List Value), us.length = ps.length → bindArgs (PySem.W.fnOf x qual (defArgs st) (defBody st) (defScope st) .none kV doc pm an cdv ct) ⟨us, []⟩ = pure (ps.zip us)) : Binds K fd ps [] := by
  obtain ⟨oc, od, kV, doc, pm, an, cdv, ct, osl, rfl, lk, hcd⟩ := F.ex
  exact .all (h kV doc pm an cdv ct)
theorem fun_mk {x qual : Str} {st : Stmt} {f : Addr} {oc : Value} {od an : Option Addr} {osl : Array (Option Value)} {kV doc pm cdv ct : Value} (l : K.lookup f = some ⟨oc, od, .func (PySem.W.fnOf x qual (defArgs st) (defBody st) (defScope st) .none kV doc pm an cdv ct), osl⟩)
    (c : PySem.W.codeIn K cdv qual = true) (k : PySem.W.keepIn K (.ref f) = true) : Fun K x qual st f (PySem.W.fnOf x qual (defArgs st) (defBody st) (defScope st) .none kV doc pm an cdv ct) := ⟨⟨oc, od, kV, doc, pm, an, cdv, ct, osl, rfl, l, c⟩, k⟩
end
theorem hu_of {A : Around} {k : Nat} (hr : Room k A) : A.units + 1 < cLine := Nat.lt_of_le_of_lt (Nat.add_le_add_left (by decide : 1 ≤ 64) _) hr.units
section
variable {X : Cx}
end
theorem iteF {A B : Prop} (h : B) : if false = true then A else B := by
  rw [if_neg Bool.false_ne_true]
  exact h
theorem iteT {A B : Prop} (h : A) : if true = true then A else B := by
  rw [if_pos rfl]
  exact h
theorem ite2 {c A B : Prop} [Decidable c] (h1 : c → A) (h2 : ¬ c → B) : if c then A else B := by
  by_cases h : c
  · rw [if_pos h]
    exact h1 h
  · rw [if_neg h]
    exact h2 h
noncomputable def Same (H H' : Hp) : Prop := ∀ b o, H b = some o → H' b = some o
theorem Same.refl (H : Hp) : Same H H := fun _ _ h => h
theorem Same.trans {H H1 H2 : Hp} (a : Same H H1) (b : Same H1 H2) : Same H H2 := fun c o h => b c o (a c o h)
theorem Same.free {H H' : Hp} (e : Same H H') {l : Addr} (h : H' l = Option.none) : H l = Option.none := by
  cases q : H l with
  | none => rfl
  | some o =>
    rw [e l o q] at h
    cases h
theorem Same.seq {K : PySem.W.Frag} {H H' : Hp} {a : Addr} {xs : List V} (e : Same H H') (h : SqL K H a xs) : SqL K H' a xs := by
  rcases h with (h | ⟨o, h⟩) | h
  · exact .inl (.inl (e _ _ h))
  · exact .inl (.inr ⟨o, e _ _ h⟩)
  · exact .inr h
end L2
namespace L2
open PySem PySem.Spec PyProof.Rows
section
variable {X : Cx}
end
section
variable {κ : Type} [DecidableEq κ]
end
end L2
namespace L3
open PySem PySem.Spec PyProof.Rows L2
noncomputable abbrev St := L2.St
theorem same_upd {B H : Hp} {l : Addr} {o : HO} (h : Same B H) (n : B l = none) : Same B (upd H l o) := fun b u e => by
  rw [upd_ne (ne_of_none e n)]; exact h b u e
theorem same_new {H : Hp} {l : Addr} {o : HO} (n : H l = none) : Same H (upd H l o) := same_upd (Same.refl H) n
noncomputable def New (H : Hp) (o : HO) (Q : VK) : Prop := ∀ p H', H p = none → Same H H' → H' p = some o → (∀ b, b ≠ p → H' b = H b) → Q (.ref p) H'
theorem New.at {H : Hp} {o : HO} {Q : VK} (h : New H o Q) {p : Addr} (n : H p = none) : Q (.ref p) (upd H p o) := h p _ n (same_new n) upd_same fun b hb => upd_ne hb
noncomputable def clOf (env : Env) : List (Str × NameKind) → List (Str × Addr) → List (Str × Addr)
  | [], cs => cs
  | (n, k) :: r, cs => clOf env r (if (k == NameKind.free) = true then (n, ((env.cells.lookup n).getD 0)) :: cs else cs)
theorem clOf_run {env : Env} : ∀ (l : List (Str × NameKind)) (cs : List (Str × Addr)), (∀ y ∈ l, y.2 = .free → ∃ c, env.cells.lookup y.1 = some c) →
    (forIn l cs fun (x : Str × NameKind) (r : List (Str × Addr)) => (match x with
      | (name, kind) => if (kind == NameKind.free) = true then do let a ← cellOf env name; pure (ForInStep.yield ((name, a) :: r)) else pure (ForInStep.yield r) : Sem (ForInStep (List (Str × Addr))))) = (pure (clOf env l cs) : Sem _)
  | [], cs, _ => by rw [List.forIn_nil]; rfl
  | (n, k) :: r, cs, h => by
    rw [List.forIn_cons]
    have hr := fun cs' => clOf_run r cs' fun y hy => h y (List.mem_cons_of_mem _ hy)
    by_cases hk : (k == NameKind.free) = true
    · obtain ⟨c, hc⟩ := h (n, k) List.mem_cons_self (by simpa using hk)
      have hc : env.cells.lookup n = some c := hc
      simp only [hk, if_true, cellOf, hc, pure_bind, clOf, Option.getD_some]
      exact hr _
    · have hk : (k == NameKind.free) = false := by simpa using hk
      simp only [hk, Bool.false_eq_true, if_false, pure_bind, clOf]
      exact hr _
theorem closure_ok {env : Env} {scope : Scope} (h : ∀ y ∈ scope.names, y.2 = .free → ∃ c, env.cells.lookup y.1 = some c) : closureFor scope env = pure (clOf env scope.names []) := by
  unfold closureFor
  have e := clOf_run scope.names [] h
  first
    | exact e
    | (simp only [bind_pure_comp, id_map'] ; exact e)
    | (rw [show (do let cs ← _; return cs) = _ from bind_pure _]; exact e)
    | (simp; simpa using e)
theorem clOf_sub {env : Env} : ∀ (l : List (Str × NameKind)) (cs : List (Str × Addr)), (∀ y ∈ l, y.2 = .free → ∃ c, env.cells.lookup y.1 = some c) → (∀ p ∈ cs, env.cells.lookup p.1 = some p.2) →
    ∀ p ∈ clOf env l cs, env.cells.lookup p.1 = some p.2
  | [], cs, _, hc => hc
  | (n, k) :: r, cs, h, hc => by
    refine clOf_sub r _ (fun y hy => h y (List.mem_cons_of_mem _ hy)) ?_
    by_cases hk : (k == NameKind.free) = true
    · obtain ⟨c, e⟩ := h (n, k) List.mem_cons_self (by simpa using hk)
      have e : env.cells.lookup n = some c := e
      rw [if_pos hk]
      intro p hp
      rcases List.mem_cons.mp hp with rfl | hp
      · show env.cells.lookup n = some ((env.cells.lookup n).getD 0)
        rw [e]; rfl
      · exact hc p hp
    · rw [if_neg hk]; exact hc
theorem clOf_keep {env : Env} : ∀ (l : List (Str × NameKind)) (cs : List (Str × Addr)) (p : Str × Addr), p ∈ cs → p ∈ clOf env l cs
  | [], cs, p, h => h
  | (n, k) :: r, cs, p, h => by
    refine clOf_keep r _ p ?_
    split
    · exact List.mem_cons_of_mem _ h
    · exact h
theorem clOf_has {env : Env} : ∀ (l : List (Str × NameKind)) (cs : List (Str × Addr)) (x : Str), (x, NameKind.free) ∈ l → ∃ c, (x, c) ∈ clOf env l cs
  | (n, k) :: r, cs, x, h => by
    rcases List.mem_cons.mp h with h | h
    · have e1 : x = n := congrArg Prod.fst h
      have e2 : NameKind.free = k := congrArg Prod.snd h
      subst e1 e2
      refine ⟨(env.cells.lookup x).getD 0, clOf_keep r _ (x, _) ?_⟩
      rw [if_pos (by simp)]
      exact List.mem_cons_self
    · exact clOf_has r _ x h
theorem lookup_of_mem {α : Type} : ∀ {l : List (Str × α)} {x : Str} {c : α}, (x, c) ∈ l → ∃ d, l.lookup x = some d
  | (n, v) :: r, x, c, h => by
    by_cases e : x == n
    · exact ⟨v, by simp [List.lookup_cons, e]⟩
    · rcases List.mem_cons.mp h with h | h
      · cases h; exact absurd (by simp) e
      · obtain ⟨d, hd⟩ := lookup_of_mem h
        exact ⟨d, by simp [List.lookup_cons, e, hd]⟩
noncomputable def csOk (sc : Scope) (NX N' : List Str) (cs : List (Option Nat)) (scope : Scope) : Bool :=
  (scope.kind == .function) && (scope.names.all fun y => y.2 != .cell) && (scope.names.all fun y => y.2 != .local || scope.names.lookup y.1 == some .local) &&
  (scope.names.all fun y => y.2 != .free || (sc.names.lookup y.1 == some .cell || sc.names.lookup y.1 == some .free)) &&
  decide (cs.length = N'.length) &&
  ((List.range cs.length).all fun j => match cs[j]? with
    | some (some i) => (match N'[j]? with | some x => decide (NX[i]? = some x) && (scope.names.lookup x == some .free) | none => false)
    | _ => true)
structure CsOk (sc : Scope) (NX N' : List Str) (cs : List (Option Nat)) (scope : Scope) : Prop where
  kind : scope.kind = .function
  nocell : ∀ y ∈ scope.names, y.2 ≠ .cell
  names : ∀ y ∈ scope.names, y.2 = .local → scope.names.lookup y.1 = some .local
  free : ∀ y ∈ scope.names, y.2 = .free → sc.names.lookup y.1 = some .cell ∨ sc.names.lookup y.1 = some .free
  len : cs.length = N'.length
  capt : ∀ (j i : Nat) (x : Str), cs[j]? = some (some i) → N'[j]? = some x → NX[i]? = some x ∧ scope.names.lookup x = some .free
theorem CsOk.of {sc : Scope} {NX N' : List Str} {cs : List (Option Nat)} {scope : Scope} (h : csOk sc NX N' cs scope = true) : CsOk sc NX N' cs scope := by
  unfold csOk at h
  simp only [Bool.and_eq_true] at h
  obtain ⟨⟨⟨⟨⟨h1, h2⟩, h3⟩, h4⟩, h5⟩, h6⟩ := h
  refine ⟨by simpa using h1, fun y hy => ?_, fun y hy e => ?_, fun y hy e => ?_, of_decide_eq_true h5, fun j i x e1 e2 => ?_⟩
  · have := List.all_eq_true.mp h2 y hy; simpa using this
  · have := List.all_eq_true.mp h3 y hy; simpa [e] using this
  · have := List.all_eq_true.mp h4 y hy; simpa [e] using this
  · have hj : j < cs.length := (List.getElem?_eq_some_iff.mp e1).1
    have := List.all_eq_true.mp h6 j (List.mem_range.mpr hj)
    rw [e1, e2] at this
    simpa using this
noncomputable def cxC (X : Cx) (N' : List Str) (scope : Scope) (fp : List Addr) (s3 : Shared) (H3 : Hp) : Cx where
  prog := X.prog
  w := X.w
  K := X.K
  mg := X.mg
  base := X.base
  A := X.A
  N := N'
  s₀ := s3
  H₀ := H3
  env := compEnvC scope (clOf X.env scope.names []) s3.heap.objs.size X.env
  outer := X.stack
  stack := X.stack
  ex := fp
  fn := fun _ => false
  calm := X.calm
  pn := []
  xe := fun _ _ => False
noncomputable def cst (cs : List (Option Nat)) (σ : St) : St := cs.map fun o => match o with | some i => (σ[i]?).getD none | none => none
noncomputable def PTs (X : Cx) (ifs : List Expr) (t : TT) : Prop :=
  ∀ (pins : List (Addr × Obj)) (s : Shared) (σ : St) (H : Hp) (Q : Bool → Hp → Prop), Inv X pins σ H s → t σ H Q →
    wpAny (model X.prog X.w) X.A (forIn ifs true fun c r => if r = true then do let ok ← isTrue c X.env (eval c X.env); pure (ForInStep.yield ok) else pure (ForInStep.yield r)) (TP X pins σ Q) X.xe s
noncomputable def tT0 : TT := fun _ H Q => Q true H
theorem pts_nil {X : Cx} : PTs X [] tT0 := fun pins s σ H Q I h => wpAny_tests_nil ⟨H, I, h⟩
theorem pts_one {X : Cx} {c : Expr} {t : TT} (h : PT X c t) : PTs X [c] t := fun pins s σ H Q I q => wpAny_tests_one (h pins s σ H Q I q)
noncomputable def CompW (J : It) (g : TG) (tt : TT) (te : TE) (acc : Addr) (σ0 : St) (H0 : Hp) (Q : Hp → Prop) : Prop :=
  ∃ W : Nat → Nat → St → Hp → Prop, (∃ m, W 0 m σ0 H0) ∧ ∀ i m σ H, W i m σ H →
    (J.stop i H ∧ Q H) ∨ (J.go i H ∧ ∀ x H1, J.yld i H x H1 → g x σ H1 fun σ2 H2 => tt σ2 H2 fun b H3 =>
      if b = true then te σ2 H3 fun y H4 => ∃ ys, H4 acc = some (.lst ys) ∧ ys.length < sizeLine ∧ ∃ m', m' < m ∧ W (i + 1) m' σ2 (upd H4 acc (.lst (ys ++ [y])))
      else ∃ m', m' < m ∧ W (i + 1) m' σ2 H3)
noncomputable def tComp (cs : List (Option Nat)) (wi : TI) (g : TG) (tt : TT) (te : TE) : TE := fun σ H Q => wi σ H fun J H1 => ∀ acc, H1 acc = none → CompW J g tt te acc (cst cs σ) (upd H1 acc (.lst [])) (Q (.ref acc))
section
variable {prog : Program} {w : World} {A : Around} {R : Result → Shared → Prop} {s : Shared}
theorem compLoop_any {elt target iter : Expr} {ifs : List Expr} {scope : Scope} {pos : Pos} {it acc : Value} {env : Env} (I : Nat → Shared → Prop)
    (turn : ∀ n s, I n s → wpAny (model prog w) A (pyNext it) (fun r s₁ => match r with
      | none => R (.ok .next) s₁
      | some v => wpAny (model prog w) A (letOwnedTupleGo target it v) (fun _ s₁ => wpAny (model prog w) A (assign target env v) (fun _ s₂ =>
          wpAny (model prog w) A (forIn ifs true fun c r => if r = true then do let ok ← isTrue c env (eval c env); pure (ForInStep.yield ok) else pure (ForInStep.yield r)) (fun ok s₃ =>
            if ok = true then wpAny (model prog w) A (eval elt env) (fun x s₄ =>
              wpAny (model prog w) A (call (.builtin "list.append") [acc, x]) (fun _ s₅ => ∃ m, m < n ∧ I m s₅) (notedBy (model prog w) A env fun e s' => R (.error e) s') s₄) (notedBy (model prog w) A env fun e s' => R (.error e) s') s₃
            else ∃ m, m < n ∧ I m s₃) (notedBy (model prog w) A env fun e s' => R (.error e) s') s₂) (notedBy (model prog w) A env fun e s' => R (.error e) s') s₁) (notedBy (model prog w) A env fun e s' => R (.error e) s') s₁) (notedBy (model prog w) A env fun e s' => R (.error e) s') s)
    (n : Nat) (h : I n s) :
    codeAny (model prog w) A (.compLoop (.ListComp elt [⟨target, iter, ifs, 0⟩] scope pos) 0 it acc env) R s := by
  refine codeAny_loop rfl I (fun n s hI => ?_) n h
  show wpAny _ A ((compTurn (.ListComp elt [⟨target, iter, ifs, 0⟩] scope pos) 0 it acc env).onRaise (fun x => do noteFrame x env; theTreesLotGoes x)) _ _ s
  refine wpAny_noted ?_
  rw [compTurn_list]
  refine wpAny_bind (wpAny_standAt (wpAny_bind (wpAny_mono (turn n s hI) (fun r s₁ h₁ => ?_) fun _ _ h' => h')))
  cases r with
  | none => exact wpAny_pure h₁
  | some v =>
    refine wpAny_bind (wpAny_mono h₁ (fun _ s₁ h₁ => ?_) fun _ _ h' => h')
    refine wpAny_bind (wpAny_mono h₁ (fun _ s₂ h₂ => wpAny_bind (wpAny_mono h₂ (fun ok s₃ h₃ => ?_) fun _ _ h' => h')) fun _ _ h' => h')
    cases ok with
    | false => exact wpAny_pure ⟨rfl, h₃⟩
    | true =>
      exact wpAny_bind (wpAny_bind (wpAny_mono h₃ (fun x s₄ h₄ => wpAny_bind (wpAny_mono h₄ (fun _ s₅ h₅ => wpAny_pure (wpAny_pure ⟨rfl, h₅⟩)) fun _ _ h' => h')) fun _ _ h' => h'))
end
section
variable {X : Cx} {pins : List (Addr × Obj)} {σ : St} {H2 : Hp} {s2 : Shared}
theorem relabel_free {scope : Scope} {env : Env} : ∀ {l : List (Str × NameKind)} {x : Str} {k : NameKind},
    (l.map fun (n, k) => if (k == NameKind.free && env.scope.kind == .function && env.kindOf n == some .cell) then (n, NameKind.cell) else (n, k)).lookup x = some k →
    l.lookup x = some k ∨ (l.lookup x = some .free ∧ k = .cell)
  | [], x, k, h => by simp at h
  | (n, k') :: r, x, k, h => by
    have ih := @relabel_free scope env r x k
    rw [List.map_cons] at h
    by_cases hx : (x == n) = true
    · by_cases hc : (k' == NameKind.free && env.scope.kind == .function && env.kindOf n == some .cell) = true
      · simp only [hc, if_true, List.lookup_cons, hx] at h
        have e : k' = .free := by simp only [Bool.and_eq_true] at hc; simpa using hc.1.1
        simp only [List.lookup_cons, hx]
        exact .inr ⟨by rw [e], (Option.some.inj h).symm⟩
      · simp only [hc, if_false, List.lookup_cons, hx, Bool.false_eq_true] at h
        simp only [List.lookup_cons, hx]
        exact .inl h
    · have hx : (x == n) = false := by simpa using hx
      by_cases hc : (k' == NameKind.free && env.scope.kind == .function && env.kindOf n == some .cell) = true
      · simp only [hc, if_true, List.lookup_cons, hx] at h
        simp only [List.lookup_cons, hx]
        exact ih h
      · simp only [hc, if_false, List.lookup_cons, hx, Bool.false_eq_true] at h
        simp only [List.lookup_cons, hx]
        exact ih h
theorem comp_core {elt target iter : Expr} {ifs : List Expr} {scope : Scope} {pos : Pos} {E : Value → Shared → Prop} {N' : List Str} {cs : List (Option Nat)} {it : Addr} {fp : List Addr} {tn : Nat → Heap → Prop} {J : It} {g : TG} {tt : TT} {te : TE} {Q : VK}
    {RR : Value → Addr → Result → Shared → Prop} (hc : X.calm = true) (F : CsOk X.env.scope X.N N' cs scope)
    (hg : ∀ s3 H3, PG (cxC X N' scope fp s3 H3) target g) (ht : ∀ s3 H3, PTs (cxC X N' scope fp s3 H3) ifs tt) (he : ∀ s3 H3, PE (cxC X N' scope fp s3 H3) elt te)
    (I2 : Inv X pins σ H2 s2) (T : Turn X.prog X.w X.K target J fp it tn) (st2 : tn 0 s2.heap) (f2 : ∀ b ∈ fp, FpOk X pins H2 b)
    (hW : ∀ acc, H2 acc = none → CompW J g tt te acc (cst cs σ) (upd H2 acc (.lst [])) (Q (.ref acc)))
    (hRR : ∀ D C s' H' m, Inv X pins σ H' s' → s'.heap.Ns C m → H' C = none → C ≠ X.env.locals → X.s₀.heap.objs.size ≤ C → (∀ x c, X.env.cells.lookup x = some c → c ≠ C) → (∀ p ∈ X.pn ++ pins, p.1 ≠ C) → Q (.ref D) H' → RR (.ref D) C (.ok .next) s') :
    wpAny (model X.prog X.w) X.A (newList []) (fun acc s₃ => wpAny (model X.prog X.w) X.A (newFunctionEnv scope X.env.globals (clOf X.env scope.names []) [] X.env.qual none .none (some X.env)) (fun cenv s₄ =>
      codeAny (model X.prog X.w) X.A (.compStart (.ListComp elt [⟨target, iter, ifs, 0⟩] scope pos) 0 (.ref it) acc { cenv with scope := relabel scope X.env }) (RR acc cenv.locals) s₄) E s₃) E s2 := by
  refine wpAny_newObj_type (wpAny_newFunctionEnv F.nocell (by intro y hy; simp at hy) (fun h₁ hns₁ hsb₁ => ?_) F.kind)
  dsimp only at hns₁ hsb₁ ⊢
  have hfree : ∀ y ∈ scope.names, y.2 = .free → ∃ c, X.env.cells.lookup y.1 = some c := fun y hy e => I2.ok.has y.1 (F.free y hy e)
  have sub : ∀ x c, (clOf X.env scope.names []).lookup x = some c → X.env.cells.lookup x = some c := fun x c e => clOf_sub scope.names [] hfree (by simp) (x, c) (PySem.mem_of_lookup e)
  obtain ⟨W, ⟨m0, w0⟩, turn⟩ := hW s2.heap.objs.size I2.fresh
  have I3 := I2.lnew (t' := s2.toks) (its := []) (ys := []) .nil (Nat.zero_le _)
  generalize hs3 : ({ s2 with heap := s2.heap.push { cls := .type "list", data := .seq ([] : List Value).toArray }, toks := s2.toks } : Shared) = s3 at I3
  generalize hH3 : upd H2 s2.heap.objs.size (HO.lst []) = H3 at I3 w0
  have e3 : s2.heap.push { cls := .type "list", dict := none, data := .seq ([] : List Value).toArray } = s3.heap := by rw [← hs3]
  rw [e3] at hns₁ hsb₁ ⊢
  have old : ∀ b o, s3.heap.get? b = some o → h₁.get? b = some o := fun b o e => hsb₁.extBut b o (Nat.ne_of_lt (Heap.lt_size e)) (Heap.get?_push_of_some _ e)
  have sz3 : s3.heap.objs.size = s2.heap.objs.size + 1 := by rw [← hs3]; exact Heap.size_push ..
  have fpn3 : ∀ b ∈ fp, H3 b = none := fun b hb => by
    obtain ⟨o, ho, _⟩ := T.obj 0 _ st2 b hb
    rw [← hH3, upd_ne (Nat.ne_of_lt (Heap.lt_size ho))]
    exact (f2 b hb).1
  have fplt : ∀ b ∈ fp, b < s3.heap.objs.size := fun b hb => by
    obtain ⟨o, ho, _⟩ := T.obj 0 _ st2 b hb
    exact Nat.lt_of_lt_of_le (Heap.lt_size ho) (by rw [sz3]; exact Nat.le_succ _)
  -- the block's own facts
  have okC : (cxC X N' scope fp s3 H3).Ok := by
    refine ⟨I3.ok.mod, F.kind, I3.ok.glob, I3.ok.blt, Nat.le_refl _, fun x y c h1 h2 => I3.ok.inj x y c (sub x c h1) (sub y c h2), fun x hx => ?_, fun x c h => (Bool.false_ne_true h).elim, I3.ok.hd, I3.ok.frames, .inl rfl, fun b hb => ⟨Nat.ne_of_lt (fplt b hb), fun x c e => (f2 b hb).2.2.2.2.1 x c (sub x c e)⟩,
      I3.bs, Nat.le_trans I3.ok.bsz I3.sz, fun b o e hb => ?_, fun b hb z => ?_, I3.stack, I3.stkFree⟩
    · have hx : scope.names.lookup x = some .free := by
        rcases hx with hx | hx
        · rcases relabel_free (scope := scope) (env := X.env) hx with q | ⟨q, _⟩
          · exact absurd rfl (F.nocell _ (PySem.mem_of_lookup q))
          · exact q
        · rcases relabel_free (scope := scope) (env := X.env) hx with q | ⟨q, z⟩
          · exact q
          · cases z
      obtain ⟨c, hm⟩ := clOf_has (env := X.env) scope.names [] x (PySem.mem_of_lookup hx)
      exact lookup_of_mem hm
    · rcases (f2 b hb).2.2.2.1 with z | z
      · exact I3.ok.noex b o e z
      · have h1 := Heap.lt_size e
        have h2 := I3.ok.bsz
        exact absurd (Nat.lt_of_lt_of_le h1 h2) (Nat.not_lt.mpr z)
    · rcases List.mem_cons.mp (I3.stkSub b z) with q | q
      · exact (f2 b hb).2.1 q
      · exact (f2 b hb).2.2.1 q
  have σlen : (cst cs σ).length = N'.length := by unfold cst; rw [List.length_map]; exact F.len
  have IC : Inv (cxC X N' scope fp s3 H3) [] (cst cs σ) H3 { s3 with heap := h₁, toks := s3.toks + ([] : List (Str × Value)).length } := by
    refine ⟨okC, rfl, I3.bare, Un.kept old, ⟨_, hns₁, fun j x v e1 e2 e3 => ?_⟩, fun x c e => ?_, I3.fresh, fun x c e => I3.freeC x c (sub x c e), fun p hp => absurd (show p ∈ ([] : List (Addr × Obj)) from hp) (by simp), I3.hok.kept old, σlen⟩
    · -- a name of the block that has a value is an outer one
      obtain ⟨i, hi, hv⟩ : ∃ i, cs[j]? = some (some i) ∧ σ[i]? = some (some v) := by
        unfold cst at e2
        rw [List.getElem?_map] at e2
        cases q : cs[j]? with
        | none => rw [q] at e2; cases e2
        | some o =>
          rw [q] at e2
          cases o with
          | none => cases e2
          | some i =>
            refine ⟨i, rfl, ?_⟩
            have e2 : (σ[i]?).getD none = some v := Option.some.inj e2
            cases q2 : σ[i]? with
            | none => rw [q2] at e2; cases e2
            | some z => rw [q2] at e2; exact congrArg some e2
      obtain ⟨hN, hf⟩ := F.capt j i x hi e1
      obtain ⟨m, hn, hl⟩ := I3.loc
      have hk := F.free _ (PySem.mem_of_lookup hf) rfl
      obtain ⟨u, r, l⟩ := hl i x v hN hv (.inr hk)
      refine ⟨u, r, .inr ⟨?_, ?_⟩⟩
      · rcases e3 with e3 | e3 | e3
        · rcases relabel_free (scope := scope) (env := X.env) e3 with q | ⟨_, z⟩
          · rw [hf] at q; cases q
          · cases z
        · exact .inl e3
        · exact .inr e3
      · rcases l with ⟨z, _⟩ | ⟨_, c, hc', hcell⟩
        · have z : X.env.scope.names.lookup x = some .local := z
          rcases hk with k | k <;> (rw [k] at z; cases z)
        · obtain ⟨c2, hm⟩ := clOf_has (env := X.env) scope.names [] x (PySem.mem_of_lookup hf)
          obtain ⟨c3, h3⟩ := lookup_of_mem hm
          have e4 := sub x c3 h3
          rw [hc'] at e4
          cases e4
          obtain ⟨o, ho, hd⟩ := hcell
          exact ⟨c, h3, o, old _ _ ho, hd⟩
    · obtain ⟨v, o, ho, hd⟩ := I3.cell x c (sub x c e)
      exact ⟨v, o, old _ _ ho, hd⟩
  have st4 : tn 0 h₁ := T.keep 0 s2.heap h₁ st2 fun b hb o e => old b o (by rw [← e3]; exact Heap.get?_push_of_some _ e)
  -- what stays true of the iterator's objects through the loop
  have stat : ∀ {H' : Hp}, (∀ b ∈ fp, H' b = none) → ∀ b ∈ fp, FpOk (cxC X N' scope fp s3 H3) [] H' b := fun hn b hb =>
    ⟨hn b hb, Nat.ne_of_lt (fplt b hb), okC.exfs b hb, .inl hb, fun x c e => (f2 b hb).2.2.2.2.1 x c (sub x c e), fun p hp => absurd (show p ∈ ([] : List (Addr × Obj)) from hp) (by simp)⟩
  have noE : ∀ {α : Type} {t : Sem α} {Q' : α → Shared → Prop} {E' : Value → Shared → Prop} {s' : Shared}, wpAny (model X.prog X.w) X.A t Q' (fun _ _ => False) s' → wpAny (model X.prog X.w) X.A t Q' E' s' := fun h => wpAny_mono h (fun _ _ q => q) fun _ _ f => f.elim
  -- behind the loop
  have fin : ∀ {σ' : St} {H' : Hp} {s' : Shared}, Inv (cxC X N' scope fp s3 H3) [] σ' H' s' → Q (.ref s2.heap.objs.size) H' → RR (.ref s2.heap.objs.size) s3.heap.objs.size (.ok .next) s' := fun {σ' H' s'} I' q => by
    obtain ⟨m, hn, _⟩ := I'.loc
    refine hRR _ _ s' H' m (I3.call' I'.os I'.base I'.hok I'.bare fun b hb => ?_) hn I'.free (Nat.ne_of_gt I3.lt) I3.sz (fun x c e z => ?_) (fun p hp z => ?_) q
    · obtain ⟨_, g1, _, g3, g4, g5⟩ := f2 b hb
      exact ⟨g3, g1, g4, g5⟩
    · obtain ⟨v, o, ho, _⟩ := I3.cell x c e
      exact absurd (Heap.lt_size ho) (by rw [z]; exact Nat.lt_irrefl _)
    · exact absurd (Heap.lt_size (I3.pin p hp).1) (by rw [z]; exact Nat.lt_irrefl _)
  have loop : codeAny (model X.prog X.w) X.A (.compLoop (.ListComp elt [⟨target, iter, ifs, 0⟩] scope pos) 0 (.ref it) (.ref s2.heap.objs.size) (cxC X N' scope fp s3 H3).env)
      (RR (.ref s2.heap.objs.size) s3.heap.objs.size) { s3 with heap := h₁, toks := s3.toks + ([] : List (Str × Value)).length } := by
    refine compLoop_any (fun n s' => ∃ i σ' H', Inv (cxC X N' scope fp s3 H3) [] σ' H' s' ∧ tn i s'.heap ∧ (∀ b ∈ fp, H' b = none) ∧ W i n σ' H') ?_ m0 ⟨0, _, H3, IC, st4, fpn3, w0⟩
    rintro n s4 ⟨i, σ4, H4, I4, st4, fr4, w4⟩
    rcases turn i n σ4 H4 w4 with ⟨stop, qn⟩ | ⟨go, step⟩
    · refine thn (T.done (cxC X N' scope fp s3 H3) rfl rfl rfl hc i [] s4 σ4 H4 _ I4 (stat fr4) st4 stop) fun r s5 hh => ?_
      obtain ⟨hr, I5⟩ := hh
      subst hr
      exact fin I5 qn
    · refine thn (T.item (cxC X N' scope fp s3 H3) rfl rfl rfl hc i [] s4 σ4 H4 _ I4 (stat fr4) st4 go) fun r s5 hh => ?_
      obtain ⟨u, hr, h5⟩ := hh
      subst hr
      refine thn h5 fun _ s6 hh => ?_
      obtain ⟨x, H6, I6, r6, y6, st6, fr6⟩ := hh
      have I6' := I6.pinned (stat fr6) (T.obj _ _ st6)
      have keepT : ∀ {σ7 : St} {H7 : Hp} {s7 : Shared}, Inv (cxC X N' scope fp s3 H3) ([] ++ pinsAt fp s6.heap) σ7 H7 s7 → tn (i + 1) s7.heap ∧ ∀ b ∈ fp, H7 b = none := fun {σ7 H7 s7} I7 =>
        ⟨T.keep _ _ _ st6 fun b hb o e => (I7.pin (b, o) (List.mem_append_right _ (List.mem_append_right _ (mem_pinsAt hb e)))).1, fun b hb => by
          obtain ⟨o, e, d⟩ := T.obj _ _ st6 b hb
          exact (I7.pin (b, o) (List.mem_append_right _ (List.mem_append_right _ (mem_pinsAt hb e)))).2.1⟩
      refine noE (thn (hg s3 H3 _ s6 σ4 H6 x u _ I6' r6 (step x H6 y6)) fun _ s7 hh => ?_)
      obtain ⟨σ7, H7, I7, q7⟩ := hh
      refine noE (thn (ht s3 H3 _ s7 σ7 H7 _ I7 q7) fun b s8 hh => ?_)
      obtain ⟨H8, I8, q8⟩ := hh
      cases b with
      | false =>
        rw [if_neg Bool.false_ne_true] at q8 ⊢
        obtain ⟨m', hm, w8⟩ := q8
        obtain ⟨t8, n8⟩ := keepT I8
        exact ⟨m', hm, i + 1, σ7, H8, I8.unpinned, t8, n8, w8⟩
      | true =>
        rw [if_pos rfl] at q8 ⊢
        refine noE (thn (he s3 H3 _ s8 σ7 H8 _ I8 q8) fun v s9 hh => ?_)
        obtain ⟨y, H9, I9, r9, ys, hacc, hz, m', hm, w9⟩ := hh
        refine noE (thn (mt_append (X := cxC X N' scope fp s3 H3) _ s9 σ7 H9 (.ref s2.heap.objs.size) [y] (.ref s2.heap.objs.size) [v] (fun _ H' => W (i + 1) m' σ7 H') I9 rfl (.cons r9 .nil) ⟨_, ys, y, rfl, rfl, hacc, hz, w9⟩) fun _ s10 hh => ?_)
        obtain ⟨_, H10, I10, _, w10⟩ := hh
        obtain ⟨t10, n10⟩ := keepT I10
        exact ⟨m', hm, i + 1, σ7, H10, I10.unpinned, t10, n10, w10⟩
  have e5 : ({ s2 with heap := h₁, toks := s2.toks + ([] : List (Str × Value)).length } : Shared) = { s3 with heap := h₁, toks := s3.toks + ([] : List (Str × Value)).length } := by rw [← hs3]
  rw [e5]
  exact codeAny_compStart_list loop (T.self _ 0 _ _ _ st4 loop)
end
section
variable {X : Cx}
theorem pe_comp {elt target iter : Expr} {ifs : List Expr} {scope : Scope} {pos : Pos} {wi : TI} {g : TG} {tt : TT} {te : TE} {sc : Scope} {NX : List Str} (N' : List Str) (cs : List (Option Nat)) (hc : X.calm = true)
    (hi : PI X target iter wi) (hg : ∀ fp s3 H3, PG (cxC X N' scope fp s3 H3) target g) (ht : ∀ fp s3 H3, PTs (cxC X N' scope fp s3 H3) ifs tt) (he : ∀ fp s3 H3, PE (cxC X N' scope fp s3 H3) elt te)
    (hsc : X.env.scope = sc) (hN : X.N = NX) (hcs : csOk sc NX N' cs scope = true) (hs : ∀ x, foldedSetIterable iter X.env x = pure x := by intro _; rfl) :
    PE X (.ListComp elt [⟨target, iter, ifs, 0⟩] scope pos) (tComp cs wi g tt te) := by
  intro pins s σ H Q I h
  subst hsc hN
  have F := CsOk.of hcs
  rw [eval_ListComp]
  refine wpAny_comprehension_free (use := none) rfl hs (closure_ok fun y hy e => I.ok.has y.1 (F.free y hy e)) F.kind F.names ?_
  refine thn (hi pins s σ H _ I h) fun v s1 h1 => thn h1 fun itv s2 h2 => ?_
  obtain ⟨it, fp, tn, J, H2, rfl, I2, T, st2, f2, hW⟩ := h2
  refine comp_core (RR := fun acc C => compPost (model X.prog X.w) X.A X.xe none (EP X pins σ Q) acc C) (Q := Q) hc F (hg fp) (ht fp) (he fp) I2 T st2 f2 hW ?_
  intro D C s' H' m I' hn hC hL hsz hcell hpin q
  refine ⟨m, hn, fun h' hs' => ⟨.ref D, H', ?_, rfl, q⟩⟩
  exact I'.turned (t' := s'.toks) (it := C) (fun b o hb e => (hs'.2 b hb).trans e) hC hL (.inr hsz) hcell hpin
theorem ps_setC {i : Nat} {y : Str} {py spos : Pos} {elt target iter : Expr} {ifs : List Expr} {scope : Scope} {pos : Pos} {wi : TI} {g : TG} {tt : TT} {te : TE} {sc : Scope} {NX : List Str} (N' : List Str) (cs : List (Option Nat)) (hc : X.calm = true)
    (hND : X.N.Nodup) (hiN : X.N[i]? = some y) (hy : X.env.scope.names.lookup y = some .local)
    (hi : PI X target iter wi) (hg : ∀ fp s3 H3, PG (cxC X N' scope fp s3 H3) target g) (ht : ∀ fp s3 H3, PTs (cxC X N' scope fp s3 H3) ifs tt) (he : ∀ fp s3 H3, PE (cxC X N' scope fp s3 H3) elt te)
    (hsc : X.env.scope = sc) (hN : X.N = NX) (hcs : csOk sc NX N' cs scope = true)
    (hsw : swapsWith (.ListComp elt [⟨target, iter, ifs, 0⟩] scope pos) (some (.Name y py)) spos.line X.env = pure true)
    (hs : ∀ x, foldedSetIterable iter X.env x = pure x := by intro _; rfl) :
    PS X (.Assign [.Name y py] (.ListComp elt [⟨target, iter, ifs, 0⟩] scope pos) spos) (tAsg (tComp cs wi g tt te) (gName i)) := by
  intro pins s σ H D I h
  subst hsc hN
  have F := CsOk.of hcs
  rw [exec_Assign_Name_used _ _ _ _ hsw]
  refine wpAny_bind (wpAny_standAt (wpAny_bind ?_))
  show wpAny _ X.A (do let _ ← comprehension (.ListComp elt [⟨target, iter, ifs, 0⟩] scope pos) scope X.env _ (newList []) false (eval iter X.env) (some (assign (.Name y py) X.env))) _ _ s
  refine wpAny_bind (wpAny_mono (wpAny_comprehension_free (use := some (assign (.Name y py) X.env)) (Q := fun _ s' => SP X pins D .next s') rfl hs (closure_ok fun y hy e => I.ok.has y.1 (F.free y hy e)) F.kind F.names ?_) (fun _ s' hq => wpAny_pure (wpAny_pure hq)) fun _ _ e => e)
  refine thn (hi pins s σ H _ I h) fun v s1 h1 => thn h1 fun itv s2 h2 => ?_
  obtain ⟨it, fp, tn, J, H2, rfl, I2, T, st2, f2, hW⟩ := h2
  refine comp_core (RR := fun acc C => compPost (model X.prog X.w) X.A X.xe (some (assign (.Name y py) X.env)) (fun _ s' => SP X pins D .next s') acc C) (Q := fun x H' => gName i x σ H' D.nx) hc F (hg fp) (ht fp) (he fp) I2 T st2 f2 hW ?_
  intro A C s' H' m I' hn hC hL hsz hcell hpin q
  show wpAny _ X.A (assign (.Name y py) X.env (.ref A)) _ _ s'
  refine wpAny_assign_Name (store_ok2 I' hND hiN (.inl hy) (v := .ref A) rfl (fun s'' I'' ⟨a, hsa, ha⟩ => ?_) (.inr hy))
  have hCa : C ≠ a := by
    rcases ha with rfl | ha
    · exact hL
    · exact fun z => hcell _ _ ha z.symm
  refine ⟨m, hn.sameBut hsa hCa, fun h' hs' => ⟨_, H', ?_, q⟩⟩
  exact I''.turned (t' := s''.toks) (it := C) (fun b o hb e => (hs'.2 b hb).trans e) hC hL (.inr hsz) hcell hpin
end
end L3
namespace L3
open PySem PySem.Spec PyProof.Rows L2
section
variable {X : Cx}
noncomputable def tTupN (t : TA) : TE := fun σ H Q => t σ H fun xs H1 => xs.length ≤ sizeLine ∧ New H1 (.tup xs) Q
noncomputable def tLstN (t : TA) : TE := fun σ H Q => t σ H fun xs H1 => xs.length ≤ sizeLine ∧ New H1 (.lst xs) Q
theorem pe_tupN {es : List Expr} {t : TA} {x1} {pos : Pos} (h : PA X es t) : PE X (.Tuple es x1 pos) (tTupN t) := by
  intro pins s σ H Q I hq
  refine wpAny_Tuple_spliced (thn (h pos pins s σ H _ I hq) fun us s1 ⟨xs, H1, I1, r, z, q⟩ => ⟨by rw [← r.length]; exact z, ?_⟩)
  refine ⟨.ref s1.heap.objs.size, upd H1 s1.heap.objs.size (.tup xs), I1.laid (t' := s1.toks) (fun b u e => Heap.get?_push_of_some _ e) (Nat.le_refl _) ?_, rfl, q.at I1.fresh⟩
  exact ⟨z, us, r, ⟨_, Heap.get?_push_size _ rfl, rfl, _, rfl⟩⟩
theorem pe_lstN {es : List Expr} {t : TA} {pos : Pos} (h : PA X es t) : PE X (.List es pos) (tLstN t) := by
  intro pins s σ H Q I hq
  refine wpAny_List_spliced (thn (h pos pins s σ H _ I hq) fun us s1 ⟨xs, H1, I1, r, z, q⟩ => ⟨by rw [← r.length]; exact z, ?_⟩)
  refine ⟨.ref s1.heap.objs.size, upd H1 s1.heap.objs.size (.lst xs), I1.laid (t' := s1.toks) (fun b u e => Heap.get?_push_of_some _ e) (Nat.le_refl _) ?_, rfl, q.at I1.fresh⟩
  exact ⟨z, us, 0, r, Heap.get?_push_size _ rfl⟩
noncomputable def rListN (K : PySem.W.Frag) : List V → Hp → VK → Prop := fun xs H Q => ∃ p ys, xs = [.ref p] ∧ (SqL K H p ys ∨ SqT K H p ys) ∧ New H (.lst ys) Q
theorem call_listN : CallR X (.type "list") (rListN X.K) := by
  intro pins s σ H xs us Q I r h
  obtain ⟨p, ys, e, hq, q⟩ := h
  exact call_list_of pins s σ H xs us Q I r ⟨p, ys, e, hq, fun l n => q.at n⟩
noncomputable def rSlN (K : PySem.W.Frag) : V → Option Int → Option Int → Hp → VK → Prop := fun x lo hi H Q => ∃ a xs, x = .ref a ∧ SqL K H a xs ∧ New H (.lst (cutV xs lo hi)) Q
theorem sl_listN : SlR X (rSlN X.K) := by
  intro pins s σ H x v vl vu lo hi sl Q I rx hs pl pu h
  obtain ⟨a, xs, e, hx, q⟩ := h
  exact sl_list pins s σ H x v vl vu lo hi sl Q I rx hs pl pu ⟨a, xs, e, hx, fun p n => q.at n⟩
noncomputable def tDictN : TE := fun _ H Q => New H (.dK []) Q
theorem pe_dictN {pos : Pos} : PE X (.Dict [] [] pos) tDictN := fun pins s σ H Q I h => pe_dnewK pins s σ H Q I fun p n => h.at n
theorem call_isi : CallR X (.builtin "isinstance") (fun xs H Q => ∃ x T t b, xs = [x, .ty T] ∧ TyOf X.K H x t ∧ PySem.W.kitOne X.K t (.type T) = some b ∧ Q (.bl b) H) := by
  intro pins s σ H xs us Q I rv h
  obtain ⟨x, T, t, b, rfl, ty, e, q⟩ := h
  obtain ⟨u, c, rfl, rx, rc⟩ := vals2 rv
  cases (show c = Value.type T from rc)
  exact isinst_ok I rx ty e fun tk => ⟨.bl b, H, I.tok tk, rfl, q⟩
end
end L3
namespace L3
open PySem PySem.Spec PyProof.Rows L2
inductive D where
  | non | bl (b : Bool) | int (i : Int) | str (x : Str) | tup (xs : List D) | lst (xs : List D) | emp
mutual
noncomputable def D.dep : D → Nat
  | .tup xs => deps xs + 1
  | .lst xs => deps xs + 1
  | _ => 0
noncomputable def deps : List D → Nat
  | [] => 0
  | x :: r => max x.dep (deps r)
end
mutual
/-- what == tells -/
noncomputable def D.eqv : D → D → Bool
  | .non, .non => true
  | .bl a, .bl b => a == b
  | .bl a, .int j => (if a then 1 else 0) == j
  | .int i, .bl b => i == (if b then 1 else 0)
  | .int i, .int j => i == j
  | .str x, .str y => x == y
  | .tup xs, .tup ys => eqvs xs ys
  | .lst xs, .lst ys => eqvs xs ys
  | .emp, .emp => true
  | _, _ => false
noncomputable def eqvs : List D → List D → Bool
  | [], [] => true
  | x :: r, y :: q => x.eqv y && eqvs r q
  | _, _ => false
end
mutual
theorem D.eqv_refl : ∀ d : D, d.eqv d = true
  | .non => rfl
  | .bl b => by simp [D.eqv]
  | .int i => by simp [D.eqv]
  | .str x => by simp [D.eqv]
  | .tup xs => by rw [D.eqv]; exact eqvs_refl xs
  | .lst xs => by rw [D.eqv]; exact eqvs_refl xs
  | .emp => rfl
theorem eqvs_refl : ∀ xs : List D, eqvs xs xs = true
  | [] => rfl
  | x :: r => by rw [eqvs, D.eqv_refl x, eqvs_refl r]; rfl
end
mutual
/-- no bool and no dict in it -/
noncomputable def D.pure : D → Bool
  | .bl _ => false
  | .emp => false
  | .tup xs => pures xs
  | .lst xs => pures xs
  | _ => true
noncomputable def pures : List D → Bool
  | [] => true
  | x :: r => x.pure && pures r
end
mutual
theorem D.eqv_iff : ∀ d e : D, d.pure = true → e.pure = true → d.eqv e = true → d = e
  | .non, e, _, pe, h => by cases e <;> simp_all [D.eqv]
  | .bl b, e, pd, _, _ => by simp [D.pure] at pd
  | .int i, e, _, pe, h => by cases e <;> simp_all [D.eqv, D.pure]
  | .str x, e, _, pe, h => by cases e <;> simp_all [D.eqv]
  | .tup xs, e, pd, pe, h => by
    cases e with
    | tup ys => rw [D.eqv] at h; rw [D.pure] at pd pe; rw [eqvs_iff xs ys pd pe h]
    | _ => simp [D.eqv] at h
  | .lst xs, e, pd, pe, h => by
    cases e with
    | lst ys => rw [D.eqv] at h; rw [D.pure] at pd pe; rw [eqvs_iff xs ys pd pe h]
    | _ => simp [D.eqv] at h
  | .emp, e, _, pe, h => by cases e <;> simp_all [D.eqv]
theorem eqvs_iff : ∀ xs ys : List D, pures xs = true → pures ys = true → eqvs xs ys = true → xs = ys
  | [], ys, _, _, h => by cases ys <;> simp_all [eqvs]
  | x :: r, [], _, _, h => by simp [eqvs] at h
  | x :: r, y :: q, px, py, h => by
    rw [pures, Bool.and_eq_true] at px py
    rw [eqvs, Bool.and_eq_true] at h
    rw [D.eqv_iff x y px.1 py.1 h.1, eqvs_iff r q px.2 py.2 h.2]
end
theorem eqv_ne {d e : D} (pd : d.pure = true) (pe : e.pure = true) (h : d ≠ e) : d.eqv e = false := by
  cases q : d.eqv e with
  | false => rfl
  | true => exact absurd (D.eqv_iff d e pd pe q) h
mutual
inductive Rep (H : Hp) : V → D → Prop
  | non : Rep H .non .non
  | bl (b : Bool) : Rep H (.bl b) (.bl b)
  | int (i : Int) : Rep H (.int i) (.int i)
  | str (x : Str) : Rep H (.str x) (.str x)
  | tup {a : Addr} {vs : List V} {xs : List D} : H a = some (.tup vs) → Reps H vs xs → Rep H (.ref a) (.tup xs)
  | lst {a : Addr} {vs : List V} {xs : List D} : H a = some (.lst vs) → Reps H vs xs → Rep H (.ref a) (.lst xs)
  | emp {a : Addr} : H a = some (.dK []) → Rep H (.ref a) .emp
inductive Reps (H : Hp) : List V → List D → Prop
  | nil : Reps H [] []
  | cons {v : V} {d : D} {vs : List V} {ds : List D} : Rep H v d → Reps H vs ds → Reps H (v :: vs) (d :: ds)
end
mutual
theorem Rep.mono {H H' : Hp} {v : V} {d : D} : Rep H v d → Same H H' → Rep H' v d
  | .non => fun _ => .non
  | .bl b => fun _ => .bl b
  | .int i => fun _ => .int i
  | .str x => fun _ => .str x
  | .tup e r => fun s => .tup (s _ _ e) (r.mono s)
  | .lst e r => fun s => .lst (s _ _ e) (r.mono s)
  | .emp e => fun s => .emp (s _ _ e)
theorem Reps.mono {H H' : Hp} {vs : List V} {ds : List D} : Reps H vs ds → Same H H' → Reps H' vs ds
  | .nil => fun _ => .nil
  | .cons h r => fun s => .cons (h.mono s) (r.mono s)
end
theorem Reps.length {H : Hp} : ∀ {vs : List V} {ds : List D}, Reps H vs ds → vs.length = ds.length
  | _, _, .nil => rfl
  | _, _, .cons _ r => by rw [List.length_cons, List.length_cons, r.length]
theorem Reps.get {H : Hp} : ∀ {vs : List V} {ds : List D} {i : Nat} {v : V}, Reps H vs ds → vs[i]? = some v → ∃ d, ds[i]? = some d ∧ Rep H v d
  | _, _, i, v, .nil, e => by simp at e
  | _, _, 0, v, .cons h r, e => by simp at e; subst e; exact ⟨_, rfl, h⟩
  | _, _, i + 1, v, .cons h r, e => by
    obtain ⟨d, h1, h2⟩ := r.get (i := i) (v := v) (by simpa using e)
    exact ⟨d, by simpa using h1, h2⟩
theorem Reps.append {H : Hp} : ∀ {vs ws : List V} {ds es : List D}, Reps H vs ds → Reps H ws es → Reps H (vs ++ ws) (ds ++ es)
  | _, _, _, _, .nil => fun s => s
  | _, _, _, _, .cons h r => fun s => .cons h (r.append s)
theorem Reps.ints {H : Hp} : ∀ ns : List Int, Reps H (ns.map V.int) (ns.map D.int)
  | [] => .nil
  | n :: r => .cons (.int n) (Reps.ints r)
noncomputable def rm (p : Addr) (H : Hp) : Hp := fun b => if b = p then none else H b
theorem rm_self {p : Addr} {H : Hp} : rm p H p = none := by unfold rm; rw [if_pos rfl]
theorem rm_ne {p b : Addr} {H : Hp} (h : b ≠ p) : rm p H b = H b := by unfold rm; rw [if_neg h]
theorem rm_same {p : Addr} {H : Hp} : Same (rm p H) H := fun b o e => by
  by_cases h : b = p
  · rw [h, rm_self] at e; cases e
  · rwa [rm_ne h] at e
theorem rm_mono {p : Addr} {H H' : Hp} (s : Same (rm p H) H') : Same (rm p H) (rm p H') := fun b o e => by
  by_cases h : b = p
  · rw [h, rm_self] at e; cases e
  · rw [rm_ne h]; exact s b o e
theorem rm_of {p : Addr} {H H' : Hp} (s : Same H H') (n : H p = none) : Same H (rm p H') := fun b o e => by
  rw [rm_ne (ne_of_none e n)]; exact s b o e
theorem rm_upd {p : Addr} {H : Hp} {o : HO} : rm p (upd H p o) = rm p H := by
  funext b; unfold rm upd; split <;> rfl
section
variable {X : Cx} {pins : List (Addr × Obj)} {σ : St} {H : Hp} {s : Shared}
theorem get_toArray {us : List Value} {j : Nat} (h : j < us.toArray.size) {v : Value} (e : us[j]? = some v) : us.toArray[j] = v := by
  obtain ⟨h', q⟩ := List.getElem?_eq_some_iff.mp e
  simpa using q
theorem range_all_eqvs (f : Nat → Bool) : ∀ (xs ys : List D), xs.length = ys.length → (∀ (j : Nat) x y, xs[j]? = some x → ys[j]? = some y → f j = x.eqv y) → (List.range xs.length).all f = eqvs xs ys := by
  intro xs
  induction xs generalizing f with
  | nil => intro ys hl _; cases ys with
    | nil => rfl
    | cons _ _ => simp at hl
  | cons x r ih =>
    intro ys hl h
    cases ys with
    | nil => simp at hl
    | cons y q =>
      rw [List.length_cons, List.range_succ_eq_map, List.all_cons, List.all_map, eqvs, h 0 x y rfl rfl]
      congr 1
      exact ih (fun j => f (j + 1)) q (by simpa using hl) fun j x' y' e1 e2 => h (j + 1) x' y' (by simpa using e1) (by simpa using e2)
theorem eqvs_len : ∀ (xs ys : List D), xs.length ≠ ys.length → eqvs xs ys = false
  | [], [], h => absurd rfl h
  | [], _ :: _, _ => rfl
  | _ :: _, [], _ => rfl
  | x :: r, y :: q, h => by rw [eqvs, eqvs_len r q (by simpa using h), Bool.and_false]
noncomputable def ansAt (xs ys : List D) (j : Nat) : Bool := match xs[j]?, ys[j]? with
  | some x, some y => x.eqv y
  | _, _ => true
theorem range_min_eqvs (xs ys : List D) : ((List.range (min xs.length ys.length)).all (ansAt xs ys) && xs.length == ys.length) = eqvs xs ys := by
  by_cases h : xs.length = ys.length
  · rw [← h, Nat.min_self, beq_self_eq_true, Bool.and_true]
    refine range_all_eqvs _ xs ys h fun j x y e1 e2 => ?_
    unfold ansAt; rw [e1, e2]
  · rw [eqvs_len xs ys h, beq_eq_false_iff_ne.mpr h, Bool.and_false]
theorem IsTup.isT {h : Heap} {a : Addr} {its : Array Value} (t : IsTup h a its) : h.IsTuple a its := by
  first
  | exact t
  | (obtain ⟨o, e, c, n, d⟩ := t; exact ⟨o, e, c, n, d⟩)
  | (obtain ⟨o, e, c, n, d, _⟩ := t; exact ⟨o, e, c, n, d⟩)
mutual
theorem Rep.inj {H : Hp} {v : V} {d e : D} : Rep H v d → Rep H v e → d = e
  | .non, h => by cases h; rfl
  | .bl _, h => by cases h; rfl
  | .int _, h => by cases h; rfl
  | .str _, h => by cases h; rfl
  | .tup e r, h => by
    cases h with
    | tup e' r' => rw [e] at e'; cases e'; rw [r.inj r']
    | lst e' r' => rw [e] at e'; cases e'
    | emp e' => rw [e] at e'; cases e'
  | .lst e r, h => by
    cases h with
    | tup e' r' => rw [e] at e'; cases e'
    | lst e' r' => rw [e] at e'; cases e'; rw [r.inj r']
    | emp e' => rw [e] at e'; cases e'
  | .emp e, h => by
    cases h with
    | tup e' r' => rw [e] at e'; cases e'
    | lst e' r' => rw [e] at e'; cases e'
    | emp e' => rfl
theorem Reps.inj {H : Hp} {vs : List V} {ds es : List D} : Reps H vs ds → Reps H vs es → ds = es
  | .nil, h => by cases h; rfl
  | .cons h r, g => by
    cases g with
    | cons h' r' => rw [h.inj h', r.inj r']
end
theorem dep_get : ∀ {xs : List D} {j : Nat} {x : D}, xs[j]? = some x → x.dep ≤ deps xs
  | [], j, x, e => by simp at e
  | y :: r, 0, x, e => by simp at e; subst e; rw [deps]; lia
  | y :: r, j + 1, x, e => by
    have := dep_get (xs := r) (j := j) (x := x) (by simpa using e)
    rw [deps]; lia
theorem pure_get : ∀ {xs : List D} {j : Nat} {x : D}, pures xs = true → xs[j]? = some x → x.pure = true
  | [], j, x, _, e => by simp at e
  | y :: r, 0, x, h, e => by simp at e; subst e; rw [pures, Bool.and_eq_true] at h; exact h.1
  | y :: r, j + 1, x, h, e => by rw [pures, Bool.and_eq_true] at h; exact pure_get (j := j) h.2 (by simpa using e)
theorem tupAt {P : Program} {w : World} (hok : HOk P w H s.heap) {a : Addr} {vs : List V} (e : H a = some (.tup vs)) : ∃ its : List Value, Vals vs its ∧ s.heap.IsTuple a its.toArray := by
  obtain ⟨_, its, r, t⟩ := hok a _ e
  exact ⟨its, r, IsTup.isT t⟩
theorem lstAt {P : Program} {w : World} (hok : HOk P w H s.heap) {a : Addr} {vs : List V} (e : H a = some (.lst vs)) : ∃ its : List Value, Vals vs its ∧ s.heap.IsList a its.toArray := by
  obtain ⟨_, its, n, r, t⟩ := hok a _ e
  exact ⟨its, r, _, t, rfl, n, rfl⟩
theorem items_ans {A : Around} {vs ws : List V} {xs ys : List D} {us zs : List Value} (rx : Reps H vs xs) (ry : Reps H ws ys) (qx : Vals vs us) (qy : Vals ws zs)
    (ih : ∀ (j : Nat) x y v w u z, xs[j]? = some x → ys[j]? = some y → Rep H v x → Rep H w y → RelV v u → RelV w z → SeqAt.EqAt A s u z (x.eqv y)) :
    ∀ j (h1 : j < us.toArray.size) (h2 : j < zs.toArray.size), SeqAt.EqAt A s us.toArray[j] zs.toArray[j] (ansAt xs ys j) := fun j h1 h2 => by
  have l1 := qx.length
  have l2 := qy.length
  rw [List.size_toArray] at h1 h2
  have g1 : vs[j]? = some (vs[j]'(by lia)) := List.getElem?_eq_getElem (by lia)
  have g2 : ws[j]? = some (ws[j]'(by lia)) := List.getElem?_eq_getElem (by lia)
  obtain ⟨u, hu, ru⟩ := qx.get g1
  obtain ⟨z, hz, rz⟩ := qy.get g2
  obtain ⟨x, hx, px⟩ := rx.get g1
  obtain ⟨y, hy, py⟩ := ry.get g2
  rw [get_toArray _ hu, get_toArray _ hz]
  unfold ansAt
  rw [hx, hy]
  exact ih j x y _ _ u z hx hy px py ru rz
theorem in1_units (A : Around) : A.in1.units = A.units + 1 := rfl
theorem eqAt_n {P : Program} {w : World} (hok : HOk P w H s.heap) : ∀ (n : Nat) (A : Around) {v w : V} {d e : D} {u z : Value}, d.dep ≤ n → Rep H v d → Rep H w e → RelV v u → RelV w z → d.pure = true → e.pure = true → A.units + n < cLine →
    SeqAt.EqAt A s u z (d.eqv e) := by
  intro n
  induction n with
  | zero =>
    intro A v w d e u z hd rd re ru rz pd pe hu
    cases rd with
    | bl _ => simp [D.pure] at pd
    | emp _ => simp [D.pure] at pd
    | tup _ _ => simp [D.dep] at hd
    | lst _ _ => simp [D.dep] at hd
    | non =>
      cases ru
      cases re with
      | bl _ => simp [D.pure] at pe
      | emp _ => simp [D.pure] at pe
      | non => cases rz; exact SeqAt.EqAt.same .none
      | int j => obtain ⟨t, rfl⟩ := rz; exact SeqAt.EqAt.none_int j t
      | str y => obtain ⟨t, rfl⟩ := rz; exact SeqAt.EqAt.none_str y t
      | tup ea _ => cases rz; obtain ⟨its, _, ht⟩ := tupAt hok ea; exact SeqAt.EqAt.none_tuple ht (by lia)
      | lst ea _ => cases rz; obtain ⟨its, _, ht⟩ := lstAt hok ea; exact SeqAt.EqAt.none_list ht (by lia)
    | int i =>
      obtain ⟨t, rfl⟩ := ru
      cases re with
      | bl _ => simp [D.pure] at pe
      | emp _ => simp [D.pure] at pe
      | non => cases rz; exact SeqAt.EqAt.int_none i t
      | int j => obtain ⟨t', rfl⟩ := rz; exact SeqAt.EqAt.int_int i t j t'
      | str y => obtain ⟨t', rfl⟩ := rz; exact SeqAt.EqAt.int_str i t y t'
      | tup ea _ => cases rz; obtain ⟨its, _, ht⟩ := tupAt hok ea; exact SeqAt.EqAt.int_tuple i t ht (by lia)
      | lst ea _ => cases rz; obtain ⟨its, _, ht⟩ := lstAt hok ea; exact SeqAt.EqAt.int_list i t ht (by lia)
    | str x =>
      obtain ⟨t, rfl⟩ := ru
      cases re with
      | bl _ => simp [D.pure] at pe
      | emp _ => simp [D.pure] at pe
      | non => cases rz; exact SeqAt.EqAt.str_none x t
      | int j => obtain ⟨t', rfl⟩ := rz; exact SeqAt.EqAt.str_int x t j t'
      | str y => obtain ⟨t', rfl⟩ := rz; exact SeqAt.EqAt.str_str x t y t'
      | tup ea _ => cases rz; obtain ⟨its, _, ht⟩ := tupAt hok ea; exact SeqAt.EqAt.str_tuple x t ht (by lia)
      | lst ea _ => cases rz; obtain ⟨its, _, ht⟩ := lstAt hok ea; exact SeqAt.EqAt.str_list x t ht (by lia)
  | succ n ih =>
    intro A v w d e u z hd rd re ru rz pd pe hu
    by_cases h0 : d.dep ≤ n
    · exact ih A h0 rd re ru rz pd pe (by lia)
    · have ihn : ∀ {xs ys : List D}, deps xs ≤ n → pures xs = true → pures ys = true → ∀ (j : Nat) x y v w u z, xs[j]? = some x → ys[j]? = some y → Rep H v x → Rep H w y → RelV v u → RelV w z → SeqAt.EqAt A.in1 s u z (x.eqv y) :=
        fun {xs ys} hx px py j x y v w u z e1 e2 r1 r2 q1 q2 => ih A.in1 (Nat.le_trans (dep_get e1) hx) r1 r2 q1 q2 (pure_get px e1) (pure_get py e2) (by rw [in1_units]; lia)
      cases rd with
      | non => simp [D.dep] at h0
      | bl _ => simp [D.dep] at h0
      | int _ => simp [D.dep] at h0
      | str _ => simp [D.dep] at h0
      | emp _ => simp [D.dep] at h0
      | @tup a vs xs ea rs =>
        cases ru
        obtain ⟨its, qi, hi⟩ := tupAt hok ea
        rw [D.dep] at hd
        rw [D.pure] at pd
        cases re with
        | bl _ => simp [D.pure] at pe
        | emp _ => simp [D.pure] at pe
        | non => cases rz; exact SeqAt.EqAt.tuple_none hi (by lia)
        | int j => obtain ⟨t', rfl⟩ := rz; exact SeqAt.EqAt.tuple_int j t' hi (by lia)
        | str y => obtain ⟨t', rfl⟩ := rz; exact SeqAt.EqAt.tuple_str y t' hi (by lia)
        | lst eb _ => cases rz; obtain ⟨its2, _, ht⟩ := lstAt hok eb; exact SeqAt.EqAt.tuple_list hi ht (by lia)
        | @tup b ws ys eb rs2 =>
          cases rz
          rw [D.pure] at pe
          by_cases hab : a = b
          · subst hab
            rw [ea] at eb; cases eb
            rw [rs.inj rs2, D.eqv_refl]
            exact SeqAt.EqAt.same _
          · obtain ⟨its2, qj, hj⟩ := tupAt hok eb
            refine SeqAt.EqAt.of_refs hab ?_
            have q := SeqAt.RcAt.tuples (A := A) hi hj (by lia) (e := ansAt xs ys) (items_ans rs rs2 qi qj (ihn (by lia) pd pe))
            have l1 := qi.length
            have l2 := qj.length
            rw [List.size_toArray, List.size_toArray, ← l1, ← l2, rs.length, rs2.length, range_min_eqvs] at q
            rw [D.eqv]; exact q
      | @lst a vs xs ea rs =>
        cases ru
        obtain ⟨its, qi, hi⟩ := lstAt hok ea
        rw [D.dep] at hd
        rw [D.pure] at pd
        cases re with
        | bl _ => simp [D.pure] at pe
        | emp _ => simp [D.pure] at pe
        | non => cases rz; exact SeqAt.EqAt.list_none hi (by lia)
        | int j => obtain ⟨t', rfl⟩ := rz; exact SeqAt.EqAt.list_int j t' hi (by lia)
        | str y => obtain ⟨t', rfl⟩ := rz; exact SeqAt.EqAt.list_str y t' hi (by lia)
        | tup eb _ => cases rz; obtain ⟨its2, _, ht⟩ := tupAt hok eb; exact SeqAt.EqAt.list_tuple hi ht (by lia)
        | @lst b ws ys eb rs2 =>
          cases rz
          rw [D.pure] at pe
          by_cases hab : a = b
          · subst hab
            rw [ea] at eb; cases eb
            rw [rs.inj rs2, D.eqv_refl]
            exact SeqAt.EqAt.same _
          · obtain ⟨its2, qj, hj⟩ := lstAt hok eb
            refine SeqAt.EqAt.of_refs hab ?_
            have l1 := qi.length
            have l2 := qj.length
            have l3 := rs.length
            have l4 := rs2.length
            by_cases hl : xs.length = ys.length
            · have q := SeqAt.RcAt.lists (A := A) hi hj (by rw [List.size_toArray, List.size_toArray]; lia) (by lia) (e := ansAt xs ys) (items_ans rs rs2 qi qj (ihn (by lia) pd pe))
              have e1 : its.toArray.size = xs.length := by rw [List.size_toArray]; lia
              rw [e1, range_all_eqvs (ansAt xs ys) xs ys hl fun j x y e1 e2 => by unfold ansAt; rw [e1, e2]] at q
              rw [D.eqv]; exact q
            · rw [D.eqv, eqvs_len xs ys hl]
              exact SeqAt.RcAt.lists_lengths hi hj (by rw [List.size_toArray, List.size_toArray]; simp; lia) (by lia)
end
section
variable {X : Cx} {pins : List (Addr × Obj)} {σ : St} {H : Hp} {s : Shared}
theorem rcAt_rep {P : Program} {w : World} (hok : HOk P w H s.heap) (n : Nat) (A : Around) {v w : V} {d e : D} {u z : Value} (hd : d.dep ≤ n) (rd : Rep H v d) (re : Rep H w e) (ru : RelV v u) (rz : RelV w z) (pd : d.pure = true) (pe : e.pure = true) (hu : A.units + n < cLine) :
    SeqAt.RcAt A s u z (d.eqv e) ∧ SeqAt.RcNeAt A s u z (!(d.eqv e)) := by
  have ihn : ∀ {xs ys : List D}, deps xs + 1 ≤ n → pures xs = true → pures ys = true → ∀ (j : Nat) x y v w u z, xs[j]? = some x → ys[j]? = some y → Rep H v x → Rep H w y → RelV v u → RelV w z → SeqAt.EqAt A.in1 s u z (x.eqv y) :=
    fun {xs ys} hx px py j x y v w u z e1 e2 r1 r2 q1 q2 => eqAt_n hok (n - 1) A.in1 (Nat.le_trans (dep_get e1) (by lia)) r1 r2 q1 q2 (pure_get px e1) (pure_get py e2) (by rw [in1_units]; lia)
  cases rd with
  | bl _ => simp [D.pure] at pd
  | emp _ => simp [D.pure] at pd
  | non =>
    cases ru
    cases re with
    | bl _ => simp [D.pure] at pe
    | emp _ => simp [D.pure] at pe
    | non => cases rz; exact ⟨SeqAt.RcAt.none_none, SeqAt.RcNeAt.none_none⟩
    | int j => obtain ⟨t, rfl⟩ := rz; exact ⟨SeqAt.RcAt.none_int j t, SeqAt.RcNeAt.none_int j t⟩
    | str y => obtain ⟨t, rfl⟩ := rz; exact ⟨SeqAt.RcAt.none_str y t, SeqAt.RcNeAt.none_str y t⟩
    | tup ea _ => cases rz; obtain ⟨its, _, ht⟩ := tupAt hok ea; exact ⟨SeqAt.RcAt.none_tuple ht (by lia), SeqAt.RcNeAt.none_tuple ht (by lia)⟩
    | lst ea _ => cases rz; obtain ⟨its, _, ht⟩ := lstAt hok ea; exact ⟨SeqAt.RcAt.none_list ht (by lia), SeqAt.RcNeAt.none_list ht (by lia)⟩
  | int i =>
    obtain ⟨t, rfl⟩ := ru
    cases re with
    | bl _ => simp [D.pure] at pe
    | emp _ => simp [D.pure] at pe
    | non => cases rz; exact ⟨SeqAt.RcAt.int_none i t, SeqAt.RcNeAt.int_none i t⟩
    | int j => obtain ⟨t', rfl⟩ := rz; exact ⟨SeqAt.RcAt.int_int i t j t', SeqAt.RcNeAt.int_int i t j t'⟩
    | str y => obtain ⟨t', rfl⟩ := rz; exact ⟨SeqAt.RcAt.int_str i t y t', SeqAt.RcNeAt.int_str i t y t'⟩
    | tup ea _ => cases rz; obtain ⟨its, _, ht⟩ := tupAt hok ea; exact ⟨SeqAt.RcAt.int_tuple i t ht (by lia), SeqAt.RcNeAt.int_tuple i t ht (by lia)⟩
    | lst ea _ => cases rz; obtain ⟨its, _, ht⟩ := lstAt hok ea; exact ⟨SeqAt.RcAt.int_list i t ht (by lia), SeqAt.RcNeAt.int_list i t ht (by lia)⟩
  | str x =>
    obtain ⟨t, rfl⟩ := ru
    cases re with
    | bl _ => simp [D.pure] at pe
    | emp _ => simp [D.pure] at pe
    | non => cases rz; exact ⟨SeqAt.RcAt.str_none x t, SeqAt.RcNeAt.str_none x t⟩
    | int j => obtain ⟨t', rfl⟩ := rz; exact ⟨SeqAt.RcAt.str_int x t j t', SeqAt.RcNeAt.str_int x t j t'⟩
    | str y => obtain ⟨t', rfl⟩ := rz; exact ⟨SeqAt.RcAt.str_str x t y t', SeqAt.RcNeAt.str_str x t y t'⟩
    | tup ea _ => cases rz; obtain ⟨its, _, ht⟩ := tupAt hok ea; exact ⟨SeqAt.RcAt.str_tuple x t ht (by lia), SeqAt.RcNeAt.str_tuple x t ht (by lia)⟩
    | lst ea _ => cases rz; obtain ⟨its, _, ht⟩ := lstAt hok ea; exact ⟨SeqAt.RcAt.str_list x t ht (by lia), SeqAt.RcNeAt.str_list x t ht (by lia)⟩
  | @tup a vs xs ea rs =>
    cases ru
    obtain ⟨its, qi, hi⟩ := tupAt hok ea
    rw [D.dep] at hd
    rw [D.pure] at pd
    cases re with
    | bl _ => simp [D.pure] at pe
    | emp _ => simp [D.pure] at pe
    | non => cases rz; exact ⟨SeqAt.RcAt.tuple_none hi (by lia), SeqAt.RcNeAt.tuple_none hi (by lia)⟩
    | int j => obtain ⟨t', rfl⟩ := rz; exact ⟨SeqAt.RcAt.tuple_int j t' hi (by lia), SeqAt.RcNeAt.tuple_int j t' hi (by lia)⟩
    | str y => obtain ⟨t', rfl⟩ := rz; exact ⟨SeqAt.RcAt.tuple_str y t' hi (by lia), SeqAt.RcNeAt.tuple_str y t' hi (by lia)⟩
    | lst eb _ => cases rz; obtain ⟨its2, _, ht⟩ := lstAt hok eb; exact ⟨SeqAt.RcAt.tuple_list hi ht (by lia), SeqAt.RcNeAt.tuple_list hi ht (by lia)⟩
    | @tup b ws ys eb rs2 =>
      cases rz
      rw [D.pure] at pe
      obtain ⟨its2, qj, hj⟩ := tupAt hok eb
      have l1 := qi.length
      have l2 := qj.length
      have q := SeqAt.RcAt.tuples (A := A) hi hj (by lia) (e := ansAt xs ys) (items_ans rs rs2 qi qj (ihn hd pd pe))
      have q' := SeqAt.RcNeAt.tuples (A := A) hi hj (by lia) (e := ansAt xs ys) (items_ans rs rs2 qi qj (ihn hd pd pe))
      rw [List.size_toArray, List.size_toArray, ← l1, ← l2, rs.length, rs2.length, range_min_eqvs] at q q'
      rw [D.eqv]; exact ⟨q, q'⟩
  | @lst a vs xs ea rs =>
    cases ru
    obtain ⟨its, qi, hi⟩ := lstAt hok ea
    rw [D.dep] at hd
    rw [D.pure] at pd
    cases re with
    | bl _ => simp [D.pure] at pe
    | emp _ => simp [D.pure] at pe
    | non => cases rz; exact ⟨SeqAt.RcAt.list_none hi (by lia), SeqAt.RcNeAt.list_none hi (by lia)⟩
    | int j => obtain ⟨t', rfl⟩ := rz; exact ⟨SeqAt.RcAt.list_int j t' hi (by lia), SeqAt.RcNeAt.list_int j t' hi (by lia)⟩
    | str y => obtain ⟨t', rfl⟩ := rz; exact ⟨SeqAt.RcAt.list_str y t' hi (by lia), SeqAt.RcNeAt.list_str y t' hi (by lia)⟩
    | tup eb _ => cases rz; obtain ⟨its2, _, ht⟩ := tupAt hok eb; exact ⟨SeqAt.RcAt.list_tuple hi ht (by lia), SeqAt.RcNeAt.list_tuple hi ht (by lia)⟩
    | @lst b ws ys eb rs2 =>
      cases rz
      rw [D.pure] at pe
      obtain ⟨its2, qj, hj⟩ := lstAt hok eb
      have l1 := qi.length
      have l2 := qj.length
      have l3 := rs.length
      have l4 := rs2.length
      by_cases hl : xs.length = ys.length
      · have sz : its.toArray.size = its2.toArray.size := by rw [List.size_toArray, List.size_toArray]; lia
        have q := SeqAt.RcAt.lists (A := A) hi hj sz (by lia) (e := ansAt xs ys) (items_ans rs rs2 qi qj (ihn hd pd pe))
        have q' := SeqAt.RcNeAt.lists (A := A) hi hj sz (by lia) (e := ansAt xs ys) (items_ans rs rs2 qi qj (ihn hd pd pe))
        have e1 : its.toArray.size = xs.length := by rw [List.size_toArray]; lia
        rw [e1, range_all_eqvs (ansAt xs ys) xs ys hl fun j x y e1 e2 => by unfold ansAt; rw [e1, e2]] at q q'
        rw [D.eqv]; exact ⟨q, q'⟩
      · rw [D.eqv, eqvs_len xs ys hl]
        have sz : (its.toArray.size != its2.toArray.size) = true := by rw [List.size_toArray, List.size_toArray]; simp; lia
        exact ⟨SeqAt.RcAt.lists_lengths hi hj sz (by lia), SeqAt.RcNeAt.lists_lengths hi hj sz (by lia)⟩
noncomputable def rEqD (n : Nat) : R2 := fun x y H Q => ∃ d e, Rep H x d ∧ Rep H y e ∧ d.pure = true ∧ e.pure = true ∧ d.dep ≤ n ∧ Q (.bl (d.eqv e)) H
noncomputable def rNeD (n : Nat) : R2 := fun x y H Q => ∃ d e, Rep H x d ∧ Rep H y e ∧ d.pure = true ∧ e.pure = true ∧ d.dep ≤ n ∧ Q (.bl (!(d.eqv e))) H
theorem op_eqD {n : Nat} (hu : X.A.units + n < cLine) : OpR X (compareOp .Eq) (rEqD n) := by
  intro pins s σ H x y v u Q I rx ry h
  obtain ⟨d, e, rd, re, pd, pe, hd, q⟩ := h
  exact (rcAt_rep I.hok n X.A hd rd re rx ry pd pe hu).1 X.prog X.w X.xe _ ⟨.bl _, H, I, rfl, q⟩
theorem op_neD {n : Nat} (hu : X.A.units + n < cLine) : OpR X (compareOp .NotEq) (rNeD n) := by
  intro pins s σ H x y v u Q I rx ry h
  obtain ⟨d, e, rd, re, pd, pe, hd, q⟩ := h
  exact (rcAt_rep I.hok n X.A hd rd re rx ry pd pe hu).2 X.prog X.w X.xe _ ⟨.bl _, H, I, rfl, q⟩
end
end L3
namespace L3
open PySem PySem.Spec PyProof.Rows L2
section
variable {X : Cx}
noncomputable def rAddG : R2 := fun x y H Q => match x, y with
  | .int i, .int j => Q (.int (i + j)) H
  | .str a, .str b => a.length + b.length ≤ sizeLine ∧ Q (.str (a ++ b)) H
  | .ref a, .ref b => ∃ xs zs, H a = some (.lst xs) ∧ H b = some (.lst zs) ∧ xs.length + zs.length ≤ sizeLine ∧ New H (.lst (xs ++ zs)) Q
  | _, _ => False
theorem op_addG : OpR X (binaryOp .Add) rAddG := by
  intro pins s σ H x y v u Q I rx ry q
  cases x <;> cases y <;> first
    | exact False.elim q
    | exact op_add pins s σ H _ _ v u Q I rx ry ⟨_, _, rfl, rfl, q⟩
    | exact op_add_str pins s σ H _ _ v u Q I rx ry ⟨_, _, rfl, rfl, q.1, q.2⟩
    | (obtain ⟨xs, zs, h1, h2, h3, h4⟩ := q; exact op_cat pins s σ H _ _ v u Q I rx ry ⟨_, _, xs, zs, rfl, rfl, h1, h2, h3, fun p n => h4.at n⟩)
noncomputable def rEqG (n : Nat) : R2 := fun x y H Q => match x, y with
  | .int i, .int j => Q (.bl (decide (i = j))) H
  | .bl a, .bl b => Q (.bl (decide (a = b))) H
  | .str a, .str b => Q (.bl (decide (a = b))) H
  | x, y => rEqD n x y H Q
noncomputable def rNeG (n : Nat) : R2 := fun x y H Q => match x, y with
  | .int i, .int j => Q (.bl (!decide (i = j))) H
  | .bl a, .bl b => Q (.bl (!decide (a = b))) H
  | .str a, .str b => Q (.bl (!decide (a = b))) H
  | x, y => rNeD n x y H Q
theorem decI {i j : Int} : decide (V.int i = V.int j) = decide (i = j) := by simp
theorem decB {i j : Bool} : decide (V.bl i = V.bl j) = decide (i = j) := by simp
theorem decS {i j : Str} : decide (V.str i = V.str j) = decide (i = j) := by simp
theorem op_eqG {n : Nat} (hu : X.A.units + n < cLine) : OpR X (compareOp .Eq) (rEqG n) := by
  intro pins s σ H x y v u Q I rx ry q
  cases x <;> cases y <;> first
    | exact op_eqD hu pins s σ H _ _ v u Q I rx ry q
    | (refine op_eq pins s σ H _ _ v u Q I rx ry ⟨rfl, ?_⟩; rw [decI]; exact q)
    | (refine op_eq pins s σ H _ _ v u Q I rx ry ⟨rfl, ?_⟩; rw [decB]; exact q)
    | (refine op_eq pins s σ H _ _ v u Q I rx ry ⟨rfl, ?_⟩; rw [decS]; exact q)
theorem op_neG {n : Nat} (hu : X.A.units + n < cLine) : OpR X (compareOp .NotEq) (rNeG n) := by
  intro pins s σ H x y v u Q I rx ry q
  cases x <;> cases y <;> first
    | exact op_neD hu pins s σ H _ _ v u Q I rx ry q
    | (refine op_ne pins s σ H _ _ v u Q I rx ry ⟨rfl, ?_⟩; rw [decI]; exact q)
    | (refine op_ne pins s σ H _ _ v u Q I rx ry ⟨rfl, ?_⟩; rw [decB]; exact q)
    | (refine op_ne pins s σ H _ _ v u Q I rx ry ⟨rfl, ?_⟩; rw [decS]; exact q)
noncomputable def rIxG (K : PySem.W.Frag) : R2 := fun x y H Q => ∃ p xs i v, x = .ref p ∧ y = .int i ∧ (SqL K H p xs ∨ SqT K H p xs) ∧ atI xs i = some v ∧ Q v H
theorem ix_G : IxR X (rIxG X.K) := by
  intro value slice pins s σ H x y v u Q I rx ry q hs
  obtain ⟨p, xs, i, w, h1, h2, h3 | h3, h4, h5⟩ := q
  · exact ix_list value slice pins s σ H x y v u Q I rx ry ⟨p, xs, i, w, h1, h2, h3, h4, h5⟩ hs
  · exact ix_tup value slice pins s σ H x y v u Q I rx ry ⟨p, xs, i, w, h1, h2, h3, h4, h5⟩ hs
noncomputable def iSeq (K : PySem.W.Frag) (tl : TE) : TI := fun σ H R => tl σ H fun x H1 => ∃ a, x = .ref a ∧ (((∃ xs, SqL K H1 a xs) ∧ R (Itl K a) H1) ∨ ((∃ xs, SqT K H1 a xs) ∧ R (Itt K a) H1))
noncomputable def tAndG (K : PySem.W.Frag) (ta tb : TE) : TE := fun σ H Q => ta σ H fun x H1 => ∃ k, TruV K x H1 k ∧ if k = true then tb σ H1 Q else Q x H1
variable {a b : Expr} {rest : List Expr} {ta tb : TE} {pos : Pos}
theorem pe_andG (ha : PE X a ta) (hb : PE X (.BoolOp .And (b :: rest) pos) tb) : PE X (.BoolOp .And (a :: b :: rest) pos) (tAndG X.K ta tb) := by
  intro pins s σ H Q I h
  refine BoolOp_and (thn (ha pins s σ H _ I h) fun v s1 hh => ?_)
  obtain ⟨x, H1, I1, r1, k, tv, q1⟩ := hh
  refine thn (tru_ok pins s1 σ H1 x v (fun c H2 => H2 = H1 ∧ c = k) I1 r1 ⟨k, tv, rfl, rfl⟩) fun c s2 hh => ?_
  obtain ⟨H2, I2, e1, e2⟩ := hh
  subst e1 e2
  cases c with
  | true => rw [if_pos rfl] at q1; exact hb pins s2 σ H2 Q I2 q1
  | false => rw [if_neg Bool.false_ne_true] at q1; exact ⟨x, H2, I2, r1, q1⟩
end
section
variable {X : Cx} {tg : Expr}
theorem pi_seq {l : Expr} {tl : TE} (hl : PE X l tl) : PI X tg l (iSeq X.K tl) := by
  intro pins s σ H R I h
  refine thn (hl pins s σ H _ I h) fun v s1 hh => ?_
  obtain ⟨x, H1, I1, r1, a, ex, q⟩ := hh
  subst ex
  cases r1
  rcases q with ⟨⟨xs, hx⟩, q⟩ | ⟨⟨xs, hx⟩, q⟩
  · obtain ⟨its, r, p, hz⟩ := I1.list hx
    refine wpAny_pyIter_list p.isList ?_
    refine ⟨s1.heap.objs.size, [s1.heap.objs.size], _, _, H1, rfl, I1.kept (t' := s1.toks) fun b o e => Heap.get?_push_of_some _ e, turn_list a _, ⟨_, Heap.get?_push_size _ rfl, rfl, rfl⟩, fun b hb => ?_, q⟩
    have e : b = s1.heap.objs.size := by simpa using hb
    subst e
    exact I1.fpOk (Nat.le_refl _) I1.fresh
  · obtain ⟨its, r, p, hz⟩ := I1.tuple hx
    refine wpAny_pyIter_tuple (IsTup.isT p) ?_
    refine ⟨s1.heap.objs.size, [s1.heap.objs.size], _, _, H1, rfl, I1.kept (t' := s1.toks) fun b o e => Heap.get?_push_of_some _ e, turn_tuple a _, ⟨_, Heap.get?_push_size _ rfl, rfl, rfl⟩, fun b hb => ?_, q⟩
    have e : b = s1.heap.objs.size := by simpa using hb
    subst e
    exact I1.fpOk (Nat.le_refl _) I1.fresh
noncomputable def Cal (P : Program) (w : World) (K : PySem.W.Frag) (mg : Str → Option Value) (base : Heap) (CX : CXT) (k : Nat) (x : Str) (sp : Sp) : Prop :=
  ∃ f fd ps, FnOk P w K mg base CX k f fd ps sp ∧ mg x = some (.ref f) ∧ PySem.W.keepIn K (.ref f) = true ∧ Binds K fd ps []
noncomputable def tCallF (sp : Sp) (E : XK) (t : TA) : TE := fun σ H Q => t σ H fun vs H1 => sp vs H1 Q E
theorem pe_callF {CX : CXT} {k : Nat} {x : Str} {sp : Sp} {E : XK} {e : Expr} {es : List Expr} {t : TA} {p pos : Pos} (C : Cal X.prog X.w X.K X.mg X.base CX k x sp) (hr : Room k X.A) (hx : Passes CX X E) (hg : Gl X x)
    (ha : PA X (e :: es) t) (hdb : (x == ("__debug__" : Str)) = false := by decide) (he : starEach (e :: es) X.env = (false, eval e X.env) :: starEach es X.env := by rfl) (hpl : (backTo pos (starEach es X.env)).any (·.1) = false := by rfl) :
    PE X (.Call (.Name x p) (e :: es) [] pos) (tCallF sp E t) := by
  obtain ⟨f, fd, ps, F, hm, hk, hb⟩ := C
  have q := pe_call (dvs := []) (ds := []) F hr hg hm hk hb .nil hx ha hdb he hpl (p := p) (pos := pos)
  intro pins s σ H Q I h
  refine q pins s σ H Q I ?_
  show t σ H fun vs H1 => sp (vs ++ []) H1 Q E
  simp only [List.append_nil]
  exact h
theorem Cal.mono {P : Program} {w : World} {K : PySem.W.Frag} {mg : Str → Option Value} {base : Heap} {CX : CXT} {j k : Nat} {x : Str} {sp : Sp} (C : Cal P w K mg base CX j x sp) (h : j ≤ k) : Cal P w K mg base CX k x sp := by
  obtain ⟨f, fd, ps, F, r⟩ := C
  exact ⟨f, fd, ps, F.mono h, r⟩
end
structure Fd (K : PySem.W.Frag) (mg : Str → Option Value) (x : Str) (st : Stmt) (f : Addr) : Prop where
  ex : ∃ fd, Fun K x x st f fd
  at_ : mg x = some (.ref f)
theorem fd_mk {K : PySem.W.Frag} {h : Heap} {mg : Str → Option Value} {x : Str} {st : Stmt} {f : Addr} {oc : Value} {od an : Option Addr} {osl : Array (Option Value)} {kV doc pm cdv ct : Value} (X : K.In h) (G : h.Ns mainGlobals mg)
    (a : PySem.W.nsIn K mainGlobals x = some (some (.ref f))) (l : K.lookup f = some ⟨oc, od, .func (PySem.W.fnOf x x (defArgs st) (defBody st) (defScope st) .none kV doc pm an cdv ct), osl⟩)
    (c : PySem.W.codeIn K cdv x = true) (k : PySem.W.keepIn K (.ref f) = true) : Fd K mg x st f := ⟨⟨_, fun_mk l c k⟩, PySem.W.mg_of X G a⟩
end L3
namespace L3
open PySem PySem.Spec PyProof.Rows L2
theorem hu_n {A : Around} {k : Nat} (hr : Room k A) : A.units + 150 < cLine := by have := hr.un; lia
theorem atI_mem {α : Type} {xs : List α} {i : Int} (h0 : 0 ≤ i) (h1 : i < xs.length) : ∃ v, atI xs i = some v ∧ v ∈ xs := by
  have hlt : i.toNat < xs.length := by lia
  refine ⟨xs[i.toNat], ?_, List.getElem_mem hlt⟩
  have e : ((i.toNat : Nat) : Int) = i := by lia
  have := atI_nat (xs := xs) (j := i.toNat) (v := xs[i.toNat]) (List.getElem?_eq_getElem hlt)
  rw [e] at this
  exact this
theorem atI_ints {ns : List Int} {i : Int} (h0 : 0 ≤ i) (h1 : i < ns.length) : ∃ n, atI (ns.map V.int) i = some (.int n) ∧ n ∈ ns := by
  obtain ⟨v, e, m⟩ := atI_mem (xs := ns.map V.int) h0 (by rw [List.length_map]; exact h1)
  obtain ⟨n, hn, rfl⟩ := List.mem_map.mp m
  exact ⟨n, e, hn⟩
theorem sizeBig {n : Nat} (h : n ≤ 100000) : n < sizeLine := Nat.lt_of_le_of_lt h (by decide)
theorem sizeBig' {n : Nat} (h : n ≤ 100000) : n ≤ sizeLine := Nat.le_of_lt (sizeBig h)
section
variable {g : TG} {tt : TT} {te : TE} {acc : Addr} {σ0 : St} {H0 : Hp} {Q : Hp → Prop}
@[irreducible] noncomputable def CPost (Pv : Nat → List V → St → Hp → Prop) (acc : Addr) (n i : Nat) (σ2 : St) (y : V) (H4 : Hp) : Prop :=
  ∃ ys, H4 acc = some (.lst ys) ∧ ys.length < sizeLine ∧ ∃ m', m' < n - i ∧ m' = n - (i + 1) ∧ i + 1 ≤ n ∧ ∃ zs, Pv (i + 1) zs σ2 (upd H4 acc (.lst (ys ++ [y])))
@[irreducible] noncomputable def CSkip (Pv : Nat → List V → St → Hp → Prop) (n i : Nat) (σ2 : St) (H3 : Hp) : Prop := ∃ m', m' < n - i ∧ m' = n - (i + 1) ∧ i + 1 ≤ n ∧ ∃ zs, Pv (i + 1) zs σ2 H3
theorem cpost {Pv : Nat → List V → St → Hp → Prop} {n i : Nat} {σ2 : St} {y : V} {H4 : Hp} {ys : List V} (h1 : H4 acc = some (.lst ys)) (h2 : ys.length < sizeLine) (h3 : i < n) (h4 : Pv (i + 1) (ys ++ [y]) σ2 (upd H4 acc (.lst (ys ++ [y])))) : CPost Pv acc n i σ2 y H4 :=
  by unfold CPost; exact ⟨ys, h1, h2, n - (i + 1), by lia, rfl, h3, _, h4⟩
theorem cskip {Pv : Nat → List V → St → Hp → Prop} {n i : Nat} {σ2 : St} {H4 : Hp} {ys : List V} (h3 : i < n) (h4 : Pv (i + 1) ys σ2 H4) : CSkip Pv n i σ2 H4 := by unfold CSkip; exact ⟨n - (i + 1), by lia, rfl, h3, _, h4⟩
theorem comp_list {K : PySem.W.Frag} {a : Addr} {xs : List V} (Pv : Nat → List V → St → Hp → Prop) (h0 : Pv 0 [] σ0 H0) (hl : ∀ i ys σ H, Pv i ys σ H → SqL K H a xs)
    (hs : ∀ i ys x σ H, xs[i]? = some x → i < xs.length → Pv i ys σ H → g x σ H fun σ2 H2 => tt σ2 H2 fun b H3 => if b = true then te σ2 H3 (CPost Pv acc xs.length i σ2) else CSkip Pv xs.length i σ2 H3)
    (hd : ∀ ys σ H, Pv xs.length ys σ H → Q H) : CompW (Itl K a) g tt te acc σ0 H0 Q := by
  refine ⟨fun i m σ H => m = xs.length - i ∧ i ≤ xs.length ∧ ∃ ys, Pv i ys σ H, ⟨xs.length, by simp, Nat.zero_le _, [], h0⟩, ?_⟩
  rintro i m σ H ⟨rfl, hi, ys, p⟩
  have q := hl i ys σ H p
  by_cases hlt : i < xs.length
  · refine .inr ⟨⟨xs, xs[i], q, by simp [hlt]⟩, fun x H1 y => ?_⟩
    obtain ⟨e, y⟩ := y
    subst e
    have z := hs i ys x σ _ (y xs q) hlt p
    unfold CPost CSkip at z
    exact z
  · have e : i = xs.length := by lia
    subst e
    exact .inl ⟨⟨xs, q, Nat.le_refl _⟩, hd ys σ H p⟩
theorem comp_tup {K : PySem.W.Frag} {a : Addr} {xs : List V} (Pv : Nat → List V → St → Hp → Prop) (h0 : Pv 0 [] σ0 H0) (hl : ∀ i ys σ H, Pv i ys σ H → SqT K H a xs)
    (hs : ∀ i ys x σ H, xs[i]? = some x → i < xs.length → Pv i ys σ H → g x σ H fun σ2 H2 => tt σ2 H2 fun b H3 => if b = true then te σ2 H3 (CPost Pv acc xs.length i σ2) else CSkip Pv xs.length i σ2 H3)
    (hd : ∀ ys σ H, Pv xs.length ys σ H → Q H) : CompW (Itt K a) g tt te acc σ0 H0 Q := by
  refine ⟨fun i m σ H => m = xs.length - i ∧ i ≤ xs.length ∧ ∃ ys, Pv i ys σ H, ⟨xs.length, by simp, Nat.zero_le _, [], h0⟩, ?_⟩
  rintro i m σ H ⟨rfl, hi, ys, p⟩
  have q := hl i ys σ H p
  by_cases hlt : i < xs.length
  · refine .inr ⟨⟨xs, xs[i], q, by simp [hlt]⟩, fun x H1 y => ?_⟩
    obtain ⟨e, y⟩ := y
    subst e
    have z := hs i ys x σ _ (y xs q) hlt p
    unfold CPost CSkip at z
    exact z
  · have e : i = xs.length := by lia
    subst e
    exact .inl ⟨⟨xs, q, Nat.le_refl _⟩, hd ys σ H p⟩
end
end L3
namespace L3
open PySem PySem.Spec PyProof.Rows L2
end L3
namespace L3
open PySem PySem.Spec PyProof.Rows L2
theorem cmL {i j : Int} (h : -(2 ^ 64) < i ∧ i < 2 ^ 64) : CMul i j := .inl h
theorem cmR {i j : Int} (h : -(2 ^ 64) < j ∧ j < 2 ^ 64) : CMul i j := .inr h
theorem rm_trans {p : Addr} {H H1 H2 : Hp} (s1 : Same (rm p H) H1) (s2 : Same (rm p H1) H2) : Same (rm p H) H2 := (rm_mono s1).trans s2
theorem rm_of' {p : Addr} {H H' : Hp} (s : Same H H') : Same (rm p H) (rm p H') := rm_mono (rm_same.trans s)
theorem rm_fresh {p l : Addr} {H : Hp} (h : H l = none) : rm p H l = none := by
  unfold rm; split <;> first | rfl | exact h
theorem rm_look {p b : Addr} {H H' : Hp} {o : HO} (s : Same (rm p H) H') (h : H b = some o) (hb : b ≠ p) : H' b = some o := s b o (by rw [rm_ne hb]; exact h)
theorem rm_free {p l : Addr} {H H' : Hp} {o : HO} (s : Same (rm p H) H') (h : H' l = none) (hp : H' p = some o) : H l = none := by
  have e := s.free h
  rwa [rm_ne (fun z => by rw [z, hp] at h; cases h)] at e
theorem Fd.none {P : Program} {w : World} {K : PySem.W.Frag} {mg : Str → Option Value} {base : Heap} {x : Str} {st : Stmt} {f : Addr} {ps : List Str} {sp : Sp} (F : Fd K mg x st f)
    (hb : ∀ (kV doc pm : Value) (an : Option Addr) (cdv ct : Value) (us : List Value), us.length = ps.length → bindArgs (PySem.W.fnOf x x (defArgs st) (defBody st) (defScope st) .none kV doc pm an cdv ct) ⟨us, []⟩ = pure (ps.zip us))
    (h : ∀ vs H Q E, ¬ sp vs H Q E) : Cal P w K mg base CX0 0 x sp := by
  obtain ⟨⟨fd, F1⟩, F2⟩ := F
  exact ⟨f, fd, ps, ⟨fun vs H Q E q => (h vs H Q E q).elim, fun A outer s H args us vs Q E _ _ _ _ q => (h vs H Q E q).elim⟩, F2, F1.kp, F1.binds hb⟩
end L3
namespace L3
open PySem
theorem bt_len : bootBuiltins "len" = some (.builtin "len") := by decide +kernel
theorem bt_isinstance : bootBuiltins "isinstance" = some (.builtin "isinstance") := by decide +kernel
theorem bt_max : bootBuiltins "max" = some (.builtin "max") := by decide +kernel
theorem bt_min : bootBuiltins "min" = some (.builtin "min") := by decide +kernel
theorem bt_sum : bootBuiltins "sum" = some (.builtin "sum") := by decide +kernel
theorem bt_all : bootBuiltins "all" = some (.builtin "all") := by decide +kernel
theorem bt_sorted : bootBuiltins "sorted" = some (.builtin "sorted") := by decide +kernel
theorem bt_int : bootBuiltins "int" = some (.type "int") := by decide +kernel
theorem bt_bool : bootBuiltins "bool" = some (.type "bool") := by decide +kernel
theorem bt_tuple : bootBuiltins "tuple" = some (.type "tuple") := by decide +kernel
theorem bt_list : bootBuiltins "list" = some (.type "list") := by decide +kernel
theorem bt_dict : bootBuiltins "dict" = some (.type "dict") := by decide +kernel
end L3
namespace L3
open PySem PySem.Spec PyProof.Rows L2
section
variable {X : Cx} {a b e o l : Expr} {es rest : List Expr} {ta tb te to tl : TE} {t : TA} {pos : Pos}
theorem kIx (K : PySem.W.Frag) (hK : X.K = K := by rfl) : IxR X (rIxG K) := by subst hK; exact ix_G
theorem kAnd (K : PySem.W.Frag) (ha : PE X a ta) (hb : PE X (.BoolOp .And (b :: rest) pos) tb) (hK : X.K = K := by rfl) : PE X (.BoolOp .And (a :: b :: rest) pos) (tAndG K ta tb) := by subst hK; exact pe_andG ha hb
noncomputable def rLen (K : PySem.W.Frag) : List V → Hp → VK → Prop := fun xs H Q => ∃ p ys, xs = [.ref p] ∧ (SqL K H p ys ∨ SqT K H p ys) ∧ Q (.int ys.length) H
theorem kLen (K : PySem.W.Frag) (hK : X.K = K := by rfl) : CallR X (.builtin "len") (rLen K) := by subst hK; exact call_len_seq
noncomputable def tTru (K : PySem.W.Frag) (ta : TE) : TT := fun σ H Q => ta σ H fun x H' => ∃ k, TruV K x H' k ∧ Q k H'
theorem kTru (K : PySem.W.Frag) (ha : PE X a ta) (he : ∀ whole, isTrue a X.env whole = (do let v ← whole; standAt a.pos; holding [v] (truthy v))) (hK : X.K = K := by rfl) : PT X a (tTru K ta) := by subst hK; exact pt_truth ha he
noncomputable def rIsi (K : PySem.W.Frag) : List V → Hp → VK → Prop := fun xs H Q => ∃ x T t b, xs = [x, .ty T] ∧ TyOf K H x t ∧ PySem.W.kitOne K t (.type T) = some b ∧ Q (.bl b) H
theorem kIsi (K : PySem.W.Frag) (hK : X.K = K := by rfl) : CallR X (.builtin "isinstance") (rIsi K) := by subst hK; exact call_isi
theorem kListC (K : PySem.W.Frag) (hK : X.K = K := by rfl) : CallR X (.type "list") (rListN K) := by subst hK; exact call_listN
theorem kSl (K : PySem.W.Frag) (hK : X.K = K := by rfl) : SlR X (rSlN K) := by subst hK; exact sl_listN
theorem kSeq {tg : Expr} (K : PySem.W.Frag) (hl : PE X l tl) (hK : X.K = K := by rfl) : PI X tg l (iSeq K tl) := by subst hK; exact pi_seq hl
noncomputable def notStar : Expr → Bool
  | .Starred _ _ => false
  | _ => true
theorem star_cons {e : Expr} {es : List Expr} {env : Env} (h : notStar e = true) : starEach (e :: es) env = (false, eval e env) :: starEach es env := by
  cases e <;> first
    | rfl
    | cases h
theorem star_nil {env : Env} : starEach [] env = [] := rfl
theorem star_any {pos : Pos} {env : Env} : ∀ es : List Expr, es.all notStar = true → (backTo pos (starEach es env)).any (·.1) = false
  | [], _ => by rw [star_nil]; rfl
  | e :: r, h => by
    rw [List.all_cons, Bool.and_eq_true] at h
    rw [star_cons h.1]
    have := star_any (pos := pos) (env := env) r h.2
    unfold backTo at this ⊢
    rw [List.map_cons, List.any_cons, this]; rfl
theorem star_all {pos : Pos} {env : Env} : ∀ es : List Expr, es.all notStar = true → (backTo pos (starEach es env)).all (fun x => !x.1) = true
  | [], _ => by rw [star_nil]; rfl
  | e :: r, h => by
    rw [List.all_cons, Bool.and_eq_true] at h
    rw [star_cons h.1]
    have := star_all (pos := pos) (env := env) r h.2
    unfold backTo at this ⊢
    rw [List.map_cons, List.all_cons, this]; rfl
theorem all_head {e : Expr} {es : List Expr} (h : (e :: es).all notStar = true) : notStar e = true ∧ es.all notStar = true := by rw [List.all_cons, Bool.and_eq_true] at h; exact h
theorem paC (ha : PE X e te) (hr : PA X es t) (h : notStar e = true := by rfl) : PA X (e :: es) (tCons te t) := pa_cons ha hr (star_cons h)
theorem cF {CX : CXT} {k : Nat} {x : Str} {sp : Sp} {E : XK} {p pos : Pos} (C : Cal X.prog X.w X.K X.mg X.base CX k x sp) (hr : Room k X.A) (hx : Passes CX X E) (hg : Gl X x)
    (ha : PA X (e :: es) t) (hdb : (x == ("__debug__" : Str)) = false := by decide) (h : (e :: es).all notStar = true := by rfl) : PE X (.Call (.Name x p) (e :: es) [] pos) (tCallF sp E t) :=
  pe_callF C hr hx hg ha hdb (star_cons (all_head h).1) (star_any es (all_head h).2)
theorem cB {id : String} {r : List V → Hp → VK → Prop} {x : Str} {p pos : Pos} (hc : CallR X (.builtin id) r) (hg : Gl X x) (hm : X.mg x = none) (hv : bootBuiltins x = some (.builtin id)) (ha : PA X (e :: es) t) (hn : x ≠ "__name__" := by decide) (hdb : (x == ("__debug__" : Str)) = false := by decide)
    (h : (e :: es).all notStar = true := by rfl) : PE X (.Call (.Name x p) (e :: es) [] pos) (tCB r t) := pe_callB hc hg hm hv ha hn hdb (star_cons (all_head h).1) (star_any es (all_head h).2)
theorem cTy {T : String} {r : List V → Hp → VK → Prop} {x : Str} {p pos : Pos} (hc : CallR X (.type T) r) (hg : Gl X x) (hm : X.mg x = none) (hv : bootBuiltins x = some (.type T)) (ha : PA X (e :: es) t) (hn : x ≠ "__name__" := by decide) (hdb : (x == ("__debug__" : Str)) = false := by decide)
    (h : (e :: es).all notStar = true := by rfl) : PE X (.Call (.Name x p) (e :: es) [] pos) (tCB r t) := pe_callTy hc hg hm hv ha hn hdb (star_cons (all_head h).1) (star_any es (all_head h).2)
theorem iRange1 {tg : Expr} {ta : TA} {p pos : Pos} (hg : Gl X "range") (hm : X.mg "range" = none) (ha : PA X [a] ta) (h : notStar a = true := by rfl) : PI X tg (.Call (.Name "range" p) [a] [] pos) (iRng1 ta) := pi_range1 hg hm ha (by rw [star_cons h, star_nil])
theorem kBm {name : Str} {apos cpos : Pos} {T id : String} {r : V → List V → Hp → VK → Prop} (K : PySem.W.Frag) (pa : PlainAttrs T) (slot : Slot T name id) (hty : typeOf (.builtin id) = pure (.type "method_descriptor")) (hm : MtR X id r) (ho : PE X o to) (ha : PA X (e :: es) t)
    (hbase : attributeBase o name X.env (eval o X.env) = eval o X.env := by rfl) (h : (e :: es).all notStar = true := by rfl) (hl : decide ((e :: es).length < 30) = true := by rfl)
    (hline : (apos.endLine == cpos.line) = true := by rfl) (hK : X.K = K := by rfl) :
    PE X (.Call (.Attribute o name apos) (e :: es) [] cpos) (tBM K T r to t) := by
  subst hK
  refine pe_bm pa slot hty hm ho ha hbase ?_ hline (star_cons (all_head h).1) (star_any es (all_head h).2)
  rw [star_all (e :: es) h, Bool.true_and, Bool.and_eq_true]
  exact ⟨rfl, hl⟩
theorem kBm0 {name : Str} {apos cpos : Pos} {T id : String} {r : V → List V → Hp → VK → Prop} (K : PySem.W.Frag) (pa : PlainAttrs T) (slot : Slot T name id) (hty : typeOf (.builtin id) = pure (.type "method_descriptor")) (hm : MtR X id r) (ho : PE X o to)
    (hbase : attributeBase o name X.env (eval o X.env) = eval o X.env := by rfl) (hline : (apos.endLine == cpos.line) = true := by rfl) (hK : X.K = K := by rfl) : PE X (.Call (.Attribute o name apos) [] [] cpos) (tBM0 K T r to) := by subst hK; exact pe_bm0 pa slot hty hm ho hbase hline
theorem kIn (K : PySem.W.Frag) (hK : X.K = K := by rfl) : OpR X (compareOp .In) (rIn K false) := by subst hK; exact op_in_seq
end
end L3
namespace L3
open PySem PySem.Spec PyProof.Rows L2
@[irreducible] noncomputable def QE (X : Cx) (e : Expr) (t : TE) : Prop := PE X e t
@[irreducible] noncomputable def QT (X : Cx) (e : Expr) (t : TT) : Prop := PT X e t
@[irreducible] noncomputable def QW (X : Cx) (e : Expr) (t : TT) : Prop := PW X e t
@[irreducible] noncomputable def QA (X : Cx) (es : List Expr) (t : TA) : Prop := PA X es t
@[irreducible] noncomputable def QS (X : Cx) (s : Stmt) (t : TS) : Prop := PS X s t
@[irreducible] noncomputable def QSs (X : Cx) (s : List Stmt) (t : TS) : Prop := PSs X s t
@[irreducible] noncomputable def QG (X : Cx) (e : Expr) (t : TG) : Prop := PG X e t
@[irreducible] noncomputable def QGs (X : Cx) (es : List Expr) (t : TGs) : Prop := PGs X es t
@[irreducible] noncomputable def QI (X : Cx) (tg e : Expr) (t : TI) : Prop := PI X tg e t
@[irreducible] noncomputable def QO (X : Cx) (e : Option Expr) (t : TO) : Prop := PO X e t
@[irreducible] noncomputable def QTs (X : Cx) (es : List Expr) (t : TT) : Prop := PTs X es t
@[irreducible] noncomputable def ROp (X : Cx) (f : Value → Value → Sem Value) (r : R2) : Prop := OpR X f r
@[irreducible] noncomputable def RUn (X : Cx) (f : Value → Sem Value) (r : V → Hp → VK → Prop) : Prop := UnR X f r
@[irreducible] noncomputable def RCall (X : Cx) (f : Value) (r : List V → Hp → VK → Prop) : Prop := CallR X f r
@[irreducible] noncomputable def RIx (X : Cx) (r : R2) : Prop := IxR X r
@[irreducible] noncomputable def RMt (X : Cx) (id : String) (r : V → List V → Hp → VK → Prop) : Prop := MtR X id r
@[irreducible] noncomputable def RSl (X : Cx) (r : V → Option Int → Option Int → Hp → VK → Prop) : Prop := SlR X r
@[irreducible] noncomputable def RSet (X : Cx) (r : TSet) : Prop := PSet X r
@[irreducible] noncomputable def RIp (X : Cx) (op : Operator) (r : TIp) : Prop := PIp X op r
section
variable {X : Cx}
theorem QE.un {e : Expr} {t : TE} (h : QE X e t) : PE X e t := by unfold QE at h; exact h
theorem QE.mk {e : Expr} {t : TE} (h : PE X e t) : QE X e t := by unfold QE; exact h
theorem QT.un {e : Expr} {t : TT} (h : QT X e t) : PT X e t := by unfold QT at h; exact h
theorem QT.mk {e : Expr} {t : TT} (h : PT X e t) : QT X e t := by unfold QT; exact h
theorem QW.un {e : Expr} {t : TT} (h : QW X e t) : PW X e t := by unfold QW at h; exact h
theorem QW.mk {e : Expr} {t : TT} (h : PW X e t) : QW X e t := by unfold QW; exact h
theorem QA.un {es : List Expr} {t : TA} (h : QA X es t) : PA X es t := by unfold QA at h; exact h
theorem QA.mk {es : List Expr} {t : TA} (h : PA X es t) : QA X es t := by unfold QA; exact h
theorem QS.un {s : Stmt} {t : TS} (h : QS X s t) : PS X s t := by unfold QS at h; exact h
theorem QS.mk {s : Stmt} {t : TS} (h : PS X s t) : QS X s t := by unfold QS; exact h
theorem QSs.un {s : List Stmt} {t : TS} (h : QSs X s t) : PSs X s t := by unfold QSs at h; exact h
theorem QSs.mk {s : List Stmt} {t : TS} (h : PSs X s t) : QSs X s t := by unfold QSs; exact h
theorem QG.un {e : Expr} {t : TG} (h : QG X e t) : PG X e t := by unfold QG at h; exact h
theorem QG.mk {e : Expr} {t : TG} (h : PG X e t) : QG X e t := by unfold QG; exact h
theorem QGs.un {es : List Expr} {t : TGs} (h : QGs X es t) : PGs X es t := by unfold QGs at h; exact h
theorem QGs.mk {es : List Expr} {t : TGs} (h : PGs X es t) : QGs X es t := by unfold QGs; exact h
theorem QI.un {tg e : Expr} {t : TI} (h : QI X tg e t) : PI X tg e t := by unfold QI at h; exact h
theorem QI.mk {tg e : Expr} {t : TI} (h : PI X tg e t) : QI X tg e t := by unfold QI; exact h
theorem QO.un {e : Option Expr} {t : TO} (h : QO X e t) : PO X e t := by unfold QO at h; exact h
theorem QO.mk {e : Option Expr} {t : TO} (h : PO X e t) : QO X e t := by unfold QO; exact h
theorem QTs.un {es : List Expr} {t : TT} (h : QTs X es t) : PTs X es t := by unfold QTs at h; exact h
theorem QTs.mk {es : List Expr} {t : TT} (h : PTs X es t) : QTs X es t := by unfold QTs; exact h
theorem ROp.un {f : Value → Value → Sem Value} {r : R2} (h : ROp X f r) : OpR X f r := by unfold ROp at h; exact h
theorem ROp.mk {f : Value → Value → Sem Value} {r : R2} (h : OpR X f r) : ROp X f r := by unfold ROp; exact h
theorem RUn.un {f : Value → Sem Value} {r : V → Hp → VK → Prop} (h : RUn X f r) : UnR X f r := by unfold RUn at h; exact h
theorem RUn.mk {f : Value → Sem Value} {r : V → Hp → VK → Prop} (h : UnR X f r) : RUn X f r := by unfold RUn; exact h
theorem RCall.un {f : Value} {r : List V → Hp → VK → Prop} (h : RCall X f r) : CallR X f r := by unfold RCall at h; exact h
theorem RCall.mk {f : Value} {r : List V → Hp → VK → Prop} (h : CallR X f r) : RCall X f r := by unfold RCall; exact h
theorem RIx.un {r : R2} (h : RIx X r) : IxR X r := by unfold RIx at h; exact h
theorem RIx.mk {r : R2} (h : IxR X r) : RIx X r := by unfold RIx; exact h
theorem RMt.un {id : String} {r : V → List V → Hp → VK → Prop} (h : RMt X id r) : MtR X id r := by unfold RMt at h; exact h
theorem RMt.mk {id : String} {r : V → List V → Hp → VK → Prop} (h : MtR X id r) : RMt X id r := by unfold RMt; exact h
theorem RSl.un {r : V → Option Int → Option Int → Hp → VK → Prop} (h : RSl X r) : SlR X r := by unfold RSl at h; exact h
theorem RSl.mk {r : V → Option Int → Option Int → Hp → VK → Prop} (h : SlR X r) : RSl X r := by unfold RSl; exact h
theorem RSet.un {r : TSet} (h : RSet X r) : PSet X r := by unfold RSet at h; exact h
theorem RSet.mk {r : TSet} (h : PSet X r) : RSet X r := by unfold RSet; exact h
theorem RIp.un {op : Operator} {r : TIp} (h : RIp X op r) : PIp X op r := by unfold RIp at h; exact h
theorem RIp.mk {op : Operator} {r : TIp} (h : PIp X op r) : RIp X op r := by unfold RIp; exact h
end
section
variable {X : Cx} {a b c e o l : Expr} {es rest : List Expr} {ta tb tc te to tl : TE} {t : TA} {pos : Pos} {tA tB' : TT}
theorem rAdd : ROp X (binaryOp .Add) rAddG := .mk op_addG
theorem rSub : ROp X (binaryOp .Sub) (rI0 fun i j => .int (i - j)) := .mk op_sub
theorem rMul : ROp X (binaryOp .Mult) (rI CMul fun i j => .int (i * j)) := .mk op_mul
theorem rMod : ROp X (binaryOp .Mod) (rI (fun _ j => 0 < j) fun i j => .int (i % j)) := .mk op_mod
theorem rPow : ROp X (binaryOp .Pow) (rI CPow fun i j => .int (i ^ j.toNat)) := .mk op_pow
theorem rNeg : RUn X (unaryOp .USub) (rU fun i => .int (-i)) := .mk un_neg
theorem rLt : ROp X (compareOp .Lt) (rI0 fun i j => .bl (decide (i < j))) := .mk op_lt
theorem rLe : ROp X (compareOp .LtE) (rI0 fun i j => .bl (decide (i ≤ j))) := .mk op_le
theorem rGt : ROp X (compareOp .Gt) (rI0 fun i j => .bl (decide (j < i))) := .mk op_gt
theorem rGe : ROp X (compareOp .GtE) (rI0 fun i j => .bl (decide (j ≤ i))) := .mk op_ge
theorem rEqq {k : Nat} {A : Around} (hr : Room k A) (hA : X.A = A := by rfl) : ROp X (compareOp .Eq) (rEqG 150) := .mk (op_eqG (by rw [hA]; exact hu_n hr))
theorem rNeq {k : Nat} {A : Around} (hr : Room k A) (hA : X.A = A := by rfl) : ROp X (compareOp .NotEq) (rNeG 150) := .mk (op_neG (by rw [hA]; exact hu_n hr))
theorem rIs : ROp X (compareOp .Is) (fun x y H Q => y = .non ∧ Q (.bl (decide (x = .non))) H) := .mk op_isN
theorem rIsNot : ROp X (compareOp .IsNot) (fun x y H Q => y = .non ∧ Q (.bl (!decide (x = .non))) H) := .mk op_notN
theorem rInn (K : PySem.W.Frag) (hK : X.K = K := by rfl) : ROp X (compareOp .In) (rIn K false) := .mk (kIn K hK)
theorem xIx (K : PySem.W.Frag) (hK : X.K = K := by rfl) : RIx X (rIxG K) := .mk (kIx K hK)
theorem xSl (K : PySem.W.Frag) (hK : X.K = K := by rfl) : RSl X (rSlN K) := .mk (kSl K hK)
theorem xSet : RSet X rSetL := .mk set_list
theorem fLen (K : PySem.W.Frag) (hK : X.K = K := by rfl) : RCall X (.builtin "len") (rLen K) := .mk (kLen K hK)
theorem fIsi (K : PySem.W.Frag) (hK : X.K = K := by rfl) : RCall X (.builtin "isinstance") (rIsi K) := .mk (kIsi K hK)
theorem fList (K : PySem.W.Frag) (hK : X.K = K := by rfl) : RCall X (.type "list") (rListN K) := .mk (kListC K hK)
noncomputable def rInt1 : List V → Hp → VK → Prop := fun xs H Q => (∃ i, xs = [.int i] ∧ Q (.int i) H) ∨ ∃ k, xs = [.bl k] ∧ Q (.int (if k then 1 else 0)) H
theorem fInt : RCall X (.type "int") rInt1 := .mk call_int1
theorem mAppend : RMt X "list.append" rAppend := .mk mt_append
theorem mExtend : RMt X "list.extend" rExtend := .mk mt_extend
theorem mClear : RMt X "list.clear" rClear := .mk mt_clear
theorem iAdd : RIp X .Add (ipI fun i j => i + j) := .mk ip_add
theorem qv (i : Nat) {x : Str} {pos : Pos} (hN : X.N[i]? = some x := by rfl) (hv : Vis X.env.scope x := by first | exact Or.inl rfl | exact Or.inr (Or.inl rfl) | exact Or.inr (Or.inr rfl)) (hd : (x == ("__debug__" : Str)) = false := by decide)
    (hcd : (x == ("__classdict__" : Str)) = false := by decide) : QE X (.Name x pos) (tVar i) := .mk (pe_var hN hv hd hcd)
theorem qint {i j pos} : QE X (.Constant (.int i) j pos) (tC (.int i)) := .mk pe_int
theorem qbl {b j pos} : QE X (.Constant (.bool b) j pos) (tC (.bl b)) := .mk pe_bl
theorem qnon {j pos} : QE X (.Constant .none j pos) (tC .non) := .mk pe_non
theorem qstr {x j pos} : QE X (.Constant (.str x) j pos) (tC (.str x)) := .mk pe_str
theorem qty {x : Str} {T : String} {pos : Pos} (hg : Gl X x) (hm : X.mg x = none) (hv : bootBuiltins x = some (.type T)) (hn : x ≠ "__name__" := by decide) (hd : (x == ("__debug__" : Str)) = false := by decide) : QE X (.Name x pos) (tC (.ty T)) := .mk (pe_bltn hg hm hv rfl hn hd)
theorem qop {op : Operator} {r : R2} (ho : ROp X (binaryOp op) r) (ha : QE X a ta) (hb : QE X b tb) : QE X (.BinOp a op b pos) (tOp r ta tb) := .mk (pe_op ho.un ha.un hb.un)
theorem qun {op : UnaryOp} {r : V → Hp → VK → Prop} (ho : RUn X (unaryOp op) r) (ha : QE X a ta) : QE X (.UnaryOp op a pos) (tUn r ta) := .mk (pe_un ho.un ha.un)
theorem qcmp {op : CmpOp} {r : R2} (ho : ROp X (compareOp op) r) (ha : QE X a ta) (hb : QE X b tb) (hm : behindInMarks op b = false) : QE X (.Compare a [op] [b] pos) (tOp r ta tb) := .mk (pe_cmpR ho.un ha.un hb.un hm)
theorem qand (K : PySem.W.Frag) (ha : QE X a ta) (hb : QE X (.BoolOp .And (b :: rest) pos) tb) (hK : X.K = K := by rfl) : QE X (.BoolOp .And (a :: b :: rest) pos) (tAndG K ta tb) := .mk (kAnd K ha.un hb.un hK)
theorem qone {op} (h : QE X a te) : QE X (.BoolOp op [a] pos) te := .mk (pe_one h.un)
theorem qif (hc : QT X c tA) (ha : QE X a ta) (hb : QE X b tb) : QE X (.IfExp c a b pos) (tIf tA ta tb) := .mk (pe_ifExp hc.un ha.un hb.un)
theorem qnil : QA X [] tNil := .mk pa_nil
theorem qcons (ha : QE X e te) (hr : QA X es t) (h : notStar e = true := by rfl) : QA X (e :: es) (tCons te t) := .mk (paC ha.un hr.un h)
theorem qtup {x1} (h : QA X es t) : QE X (.Tuple es x1 pos) (tTupN t) := .mk (pe_tupN h.un)
theorem qlst (h : QA X es t) : QE X (.List es pos) (tLstN t) := .mk (pe_lstN h.un)
theorem qdict : QE X (.Dict [] [] pos) tDictN := .mk pe_dictN
theorem qix {r : R2} (hr : RIx X r) (ha : QE X a ta) (hb : QE X b tb) (hs : PlainIx b) : QE X (.Subscript a b pos) (tOp r ta tb) := .mk (pe_ix hr.un ha.un hb.un hs)
theorem qslice {r : V → Option Int → Option Int → Hp → VK → Prop} {lo hi : Option Expr} {t1 t2 : TO} {p2 : Pos} (hr : RSl X r) (he : QE X e te) (hl : QO X lo t1) (hu : QO X hi t2) : QE X (.Subscript e (.Slice lo hi none p2) pos) (tSl r te t1 t2) := .mk (pe_slice hr.un he.un hl.un hu.un)
theorem onone : QO X none tNoPart := .mk po_none
theorem osome (h : QE X e te) : QO X (some e) (tPart te) := .mk (po_some h.un)
theorem qdget {td ty : TE} {i : Expr} {k : Nat} {A : Around} (hr : Room k A) (ho : QE X o td) (hi : QE X i ty) (hs : NoSl i) (hA : X.A = A := by rfl) : QE X (.Subscript o i pos) (tDGet td ty) := .mk (pe_dget (by rw [hA]; exact hu_of hr) ho.un hi.un hs)
theorem qF {CX : CXT} {k : Nat} {x : Str} {sp : Sp} {E : XK} {p pos : Pos} (C : Cal X.prog X.w X.K X.mg X.base CX k x sp) (hr : Room k X.A) (hx : Passes CX X E) (hg : Gl X x)
    (ha : QA X (e :: es) t) (hdb : (x == ("__debug__" : Str)) = false := by decide) (h : (e :: es).all notStar = true := by rfl) : QE X (.Call (.Name x p) (e :: es) [] pos) (tCallF sp E t) := .mk (cF C hr hx hg ha.un hdb h)
theorem qB {id : String} {r : List V → Hp → VK → Prop} {x : Str} {p pos : Pos} (hc : RCall X (.builtin id) r) (hg : Gl X x) (hm : X.mg x = none) (hv : bootBuiltins x = some (.builtin id)) (ha : QA X (e :: es) t) (hn : x ≠ "__name__" := by decide) (hdb : (x == ("__debug__" : Str)) = false := by decide)
    (h : (e :: es).all notStar = true := by rfl) : QE X (.Call (.Name x p) (e :: es) [] pos) (tCB r t) := .mk (cB hc.un hg hm hv ha.un hn hdb h)
theorem qTy {T : String} {r : List V → Hp → VK → Prop} {x : Str} {p pos : Pos} (hc : RCall X (.type T) r) (hg : Gl X x) (hm : X.mg x = none) (hv : bootBuiltins x = some (.type T)) (ha : QA X (e :: es) t) (hn : x ≠ "__name__" := by decide) (hdb : (x == ("__debug__" : Str)) = false := by decide)
    (h : (e :: es).all notStar = true := by rfl) : QE X (.Call (.Name x p) (e :: es) [] pos) (tCB r t) := .mk (cTy hc.un hg hm hv ha.un hn hdb h)
theorem qBm {name : Str} {apos cpos : Pos} {T id : String} {r : V → List V → Hp → VK → Prop} (K : PySem.W.Frag) (pa : PlainAttrs T) (slot : Slot T name id) (hty : typeOf (.builtin id) = pure (.type "method_descriptor")) (hm : RMt X id r) (ho : QE X o to) (ha : QA X (e :: es) t)
    (hbase : attributeBase o name X.env (eval o X.env) = eval o X.env := by rfl) (h : (e :: es).all notStar = true := by rfl) (hl : decide ((e :: es).length < 30) = true := by rfl)
    (hline : (apos.endLine == cpos.line) = true := by rfl) (hK : X.K = K := by rfl) : QE X (.Call (.Attribute o name apos) (e :: es) [] cpos) (tBM K T r to t) := .mk (kBm K pa slot hty hm.un ho.un ha.un hbase h hl hline hK)
theorem qBm0 {name : Str} {apos cpos : Pos} {T id : String} {r : V → List V → Hp → VK → Prop} (K : PySem.W.Frag) (pa : PlainAttrs T) (slot : Slot T name id) (hty : typeOf (.builtin id) = pure (.type "method_descriptor")) (hm : RMt X id r) (ho : QE X o to)
    (hbase : attributeBase o name X.env (eval o X.env) = eval o X.env := by rfl) (hline : (apos.endLine == cpos.line) = true := by rfl) (hK : X.K = K := by rfl) : QE X (.Call (.Attribute o name apos) [] [] cpos) (tBM0 K T r to) := .mk (kBm0 K pa slot hty hm.un ho.un hbase hline hK)
theorem tcmp {op : CmpOp} {r : R2} (ho : ROp X (compareOp op) r) (ha : QE X a ta) (hb : QE X b tb) (hm : behindInMarks op b = false) : QT X (.Compare a [op] [b] pos) (tTest (tOp r ta tb)) := .mk (pt_cmpR ho.un ha.un hb.un hm)
theorem tchain {op op' : CmpOp} {r r' : R2} (ho : ROp X (compareOp op) r) (ho' : ROp X (compareOp op') r') (ha : QE X a ta) (hb : QE X b tb) (hc : QE X c tc)
    (hm : lastMarks [op, op'] [b, c] = false := by with_unfolding_all rfl) : QT X (.Compare a [op, op'] [b, c] pos) (tTest (tChain r r' ta tb tc)) := .mk (pt_chain ho.un ho'.un ha.un hb.un hc.un hm)
theorem ttru (K : PySem.W.Frag) (ha : QE X a ta) (he : ∀ whole, isTrue a X.env whole = (do let v ← whole; standAt a.pos; holding [v] (truthy v))) (hK : X.K = K := by rfl) : QT X a (tTru K ta) := .mk (kTru K ha.un he hK)
theorem tnot (ha : QT X a tA) : QT X (.UnaryOp .Not a pos) (tNot tA) := .mk (pt_not ha.un)
theorem wand1 (ha : QT X a tA) : QW X (.BoolOp .And [a] pos) tA := .mk (pw_and1 ha.un)
theorem wor1 (ha : QT X a tA) : QW X (.BoolOp .Or [a] pos) tA := .mk (pw_or1 ha.un)
theorem wand (ha : QT X a tA) (hb : QW X (.BoolOp .And (b :: rest) pos) tB') : QW X (.BoolOp .And (a :: b :: rest) pos) (tAnd tA tB') := .mk (pw_and ha.un hb.un)
theorem wor (ha : QT X a tA) (hb : QW X (.BoolOp .Or (b :: rest) pos) tB') : QW X (.BoolOp .Or (a :: b :: rest) pos) (tOr tA tB') := .mk (pw_or ha.un hb.un)
theorem QW.tst (h : QW X a tA) : QT X a tA := .mk h.un.pt
theorem gname {i : Nat} {x : Str} (hN : X.N.Nodup) (hi : X.N[i]? = some x) (hx : Loc X.env.scope x) (hf : X.fn x = true ∨ X.env.scope.names.lookup x = some .local := by first | exact .inl rfl | exact .inr rfl | assumption) : QG X (.Name x pos) (gName i) := .mk (pg_name hN hi hx hf)
theorem gsnil : QGs X [] gNil := .mk pgs_nil
theorem gscons {t : TG} {u : TGs} (h1 : QG X e t) (h2 : QGs X es u) (hs : (assignEach (e :: es) X.env).map (·.2) = assign e X.env :: (assignEach es X.env).map (·.2) := by rfl) : QGs X (e :: es) (gCons t u) := .mk (pgs_cons h1.un h2.un hs)
theorem gtup {k : Nat} {t : TGs} {n : Nat} (K : PySem.W.Frag) (hc : X.calm = true) (h : QGs X es t) (hn : (assignEach es X.env).length = n := by rfl) (hst : (assignEach es X.env).findIdx? (·.1) = none := by rfl) (hK : X.K = K := by rfl) : QG X (.Tuple es k pos) (gTup K n t) := by
  subst hK; exact .mk (pg_tup hc h.un hn hst)
theorem gsub {i : Expr} {ti : TE} {t : TSet} (ho : QE X o to) (hi : QE X i ti) (hs : RSet X t) 
    (ha : ∀ v, assign (.Subscript o i pos) X.env v = (do
      let ov ← holding [v] (eval o X.env)
      let iv ← holding [v, ov] (eval i X.env)
      standAt pos
      holding [v, ov, iv] (setItem ov iv v)
      release [v, ov, iv] []) := by intro _; rfl) : QG X (.Subscript o i pos) (gSub to ti t) := .mk (pg_sub ho.un hi.un hs.un ha)
theorem iseq {tg : Expr} (K : PySem.W.Frag) (hl : QE X l tl) (hK : X.K = K := by rfl) : QI X tg l (iSeq K tl) := .mk (kSeq K hl.un hK)
theorem irange1 {tg : Expr} {ta : TA} {p pos : Pos} (hg : Gl X "range") (hm : X.mg "range" = none) (ha : QA X [a] ta) (h : notStar a = true := by rfl) : QI X tg (.Call (.Name "range" p) [a] [] pos) (iRng1 ta) := .mk (iRange1 hg hm ha.un h)
theorem csnil : QTs X [] tT0 := .mk pts_nil
theorem csone (h : QT X c tA) : QTs X [c] tA := .mk (pts_one h.un)
theorem qcomp {elt target iter : Expr} {ifs : List Expr} {scope : Scope} {pos : Pos} {wi : TI} {g : TG} {tt : TT} {te : TE} {sc : Scope} {NX : List Str} (N' : List Str) (cs : List (Option Nat)) (hc : X.calm = true)
    (hi : QI X target iter wi) (hg : ∀ fp s3 H3, QG (cxC X N' scope fp s3 H3) target g) (ht : ∀ fp s3 H3, QTs (cxC X N' scope fp s3 H3) ifs tt) (he : ∀ fp s3 H3, QE (cxC X N' scope fp s3 H3) elt te)
    (hsc : X.env.scope = sc) (hN : X.N = NX) (hcs : csOk sc NX N' cs scope = true) (hs : ∀ x, foldedSetIterable iter X.env x = pure x := by intro _; rfl) :
    QE X (.ListComp elt [⟨target, iter, ifs, 0⟩] scope pos) (tComp cs wi g tt te) :=
  .mk (pe_comp N' cs hc hi.un (fun fp s3 H3 => (hg fp s3 H3).un) (fun fp s3 H3 => (ht fp s3 H3).un) (fun fp s3 H3 => (he fp s3 H3).un) hsc hN hcs hs)
variable {st : Stmt} {sts : List Stmt} {t1 t2 : TS}
theorem bnil : QSs X [] tNext := .mk pss_nil
theorem bcons (h1 : QS X st t1) (h2 : QSs X sts t2) : QSs X (st :: sts) (tSeq t1 t2) := .mk (pss_cons h1.un h2.un)
theorem bone (h1 : QS X st t1) : QSs X [st] t1 := .mk (pss_one h1.un)
theorem sexpr (he : QE X e te) (hs : swapsWith e none pos.line X.env = pure false := by rfl) : QS X (.Expr e pos) (tDrop te) := .mk (ps_expr he.un hs)
theorem sret (he : QE X e te) : QS X (.Return (some e) pos) (tRet te) := .mk (ps_ret he.un)
theorem sif {c : Expr} {a b : List Stmt} {tc : TT} (hc : QT X c tc) (ha : QSs X a t1) (hb : QSs X b t2) : QS X (.If c a b pos) (tIfS tc t1 t2) := .mk (ps_if hc.un ha.un hb.un)
theorem sset {i : Nat} {x : Str} {pos' : Pos} (hN : X.N.Nodup) (hi : X.N[i]? = some x) (hx : Loc X.env.scope x) (he : QE X e te) (hs : swapsWith e (some (.Name x pos')) pos.line X.env = pure false := by rfl) (hf : X.fn x = true ∨ X.env.scope.names.lookup x = some .local := by first | exact .inl rfl | exact .inr rfl | assumption) :
    QS X (.Assign [.Name x pos'] e pos) (tAsg te (gName i)) := .mk (ps_set hN hi hx he.un hs hf)
theorem ssetC {i : Nat} {y : Str} {py spos : Pos} {elt target iter : Expr} {ifs : List Expr} {scope : Scope} {pos : Pos} {wi : TI} {g : TG} {tt : TT} {te : TE} {sc : Scope} {NX : List Str} (N' : List Str) (cs : List (Option Nat)) (hc : X.calm = true)
    (hND : X.N.Nodup) (hiN : X.N[i]? = some y) (hy : X.env.scope.names.lookup y = some .local)
    (hi : QI X target iter wi) (hg : ∀ fp s3 H3, QG (cxC X N' scope fp s3 H3) target g) (ht : ∀ fp s3 H3, QTs (cxC X N' scope fp s3 H3) ifs tt) (he : ∀ fp s3 H3, QE (cxC X N' scope fp s3 H3) elt te)
    (hsc : X.env.scope = sc) (hN : X.N = NX) (hcs : csOk sc NX N' cs scope = true)
    (hsw : swapsWith (.ListComp elt [⟨target, iter, ifs, 0⟩] scope pos) (some (.Name y py)) spos.line X.env = pure true)
    (hs : ∀ x, foldedSetIterable iter X.env x = pure x := by intro _; rfl) :
    QS X (.Assign [.Name y py] (.ListComp elt [⟨target, iter, ifs, 0⟩] scope pos) spos) (tAsg (tComp cs wi g tt te) (gName i)) :=
  .mk (ps_setC N' cs hc hND hiN hy hi.un (fun fp s3 H3 => (hg fp s3 H3).un) (fun fp s3 H3 => (ht fp s3 H3).un) (fun fp s3 H3 => (he fp s3 H3).un) hsc hN hcs hsw hs)
theorem sasg {tg : Expr} {g : TG} (he : QE X e te) (hg : QG X tg g) (hs : swapsWithSole [tg] e pos.line X.env = pure false := by rfl) (hw : swappedStores [tg] e X.env = pure none := by rfl)
    (h1 : (assignEach [tg] X.env).map (·.2) = [assign tg X.env] := by rfl) : QS X (.Assign [tg] e pos) (tAsg te g) := .mk (ps_asg he.un hg.un hs hw h1)
theorem saug {i : Nat} {x : Str} {op : Operator} {ti : TIp} {pos' : Pos} (hN : X.N.Nodup) (hi : X.N[i]? = some x) (hx : Loc X.env.scope x) (he : QE X e te) (ho : RIp X op ti) (hf : X.fn x = true ∨ X.env.scope.names.lookup x = some .local := by first | exact .inl rfl | exact .inr rfl | assumption) :
    QS X (.AugAssign (.Name x pos') op e pos) (tAug i te ti) := .mk (ps_aug hN hi hx he.un ho.un hf)
theorem sdput {i value : Expr} {td ty tv : TE} {pos' : Pos} {k : Nat} {A : Around} (hr : Room k A) (ho : QE X o td) (hi : QE X i ty) (hv : QE X value tv) (hs : swapsWith value (some (.Subscript o i pos')) pos.line X.env = pure false) (hA : X.A = A := by rfl) :
    QS X (.Assign [.Subscript o i pos'] value pos) (sDPut td ty tv) := .mk (ps_dput (by rw [hA]; exact hu_of hr) ho.un hi.un hv.un hs)
theorem sfor {tg iter : Expr} {body : List Stmt} {wi : TI} {g : TG} {tb : TS} (hp : PassesOwn (model X.prog X.w) X.A X.env X.xe) (hc : X.calm = true) (hi : QI X tg iter wi) (hg : QG X tg g) (hb : QSs X body tb)
    (hs : ∀ x, foldedSetIterable iter X.env x = pure x := by intro _; rfl) : QS X (.For tg iter body [] pos) (tFor wi g tb) := .mk (ps_for hp hc hi.un hg.un hb.un hs)
theorem swhile {c : Expr} {body : List Stmt} {tc : TT} {tb : TS} (hp : PassesOwn (model X.prog X.w) X.A X.env X.xe) (hc : QT X c tc) (hb : QSs X body tb) : QS X (.While c body [] pos) (tWhile tc tb) := .mk (ps_while hp hc.un hb.un)
end
theorem split {X : Cx} {body : List Stmt} {D : Ends} {σ : St} {H : Hp} (n : Nat) (M : St → Hp → Prop) (h2 : ∃ t, QSs X (body.drop n) t ∧ ∀ σ' H', M σ' H' → t D σ' H')
    (h1 : ∀ u, QSs X (body.drop n) u → (∀ σ' H', M σ' H' → u D σ' H') → ∃ t, QSs X body t ∧ t D σ H) : ∃ t, QSs X body t ∧ t D σ H := by
  obtain ⟨t, p, q⟩ := h2
  exact h1 t p q
theorem Fd.cal {P : Program} {w : World} {K : PySem.W.Frag} {mg : Str → Option Value} {base : Heap} {x : Str} {st : Stmt} {f : Addr} {N ps : List Str} {k : Nat} {sp : Sp} (F : Fd K mg x st f) (S : FnScope N ps (defScope st))
    (hb : ∀ (kV doc pm : Value) (an : Option Addr) (cdv ct : Value) (us : List Value), us.length = ps.length → bindArgs (PySem.W.fnOf x x (defArgs st) (defBody st) (defScope st) .none kV doc pm an cdv ct) ⟨us, []⟩ = pure (ps.zip us))
    (len : ∀ vs H Q E, sp vs H Q E → vs.length = ps.length)
    (hbody : ∀ (cdv : Value) (A : Around) (outer : List Env) (s : Shared) (H : Hp) (vs : List V) (Q : VK) (E : XK), Room k (A.deeper (envOfC x (defScope st) s.heap.objs.size f cdv)) → sp vs H Q E →
      ∃ t, QSs (cxOf CX0 P w K mg base N x (defScope st) f cdv A outer s H E).nox (defBody st) t ∧ t { nx := fun _ H' => Q .non H', rt := Q } (start N vs) H) : Cal P w K mg base CX0 (k + 1) x sp := by
  obtain ⟨⟨fd, F1⟩, F2⟩ := F
  refine ⟨f, fd, ps, F1.ok S len (fun cdv A outer s H vs Q E hr h => ?_), F2, F1.kp, F1.binds hb⟩
  obtain ⟨t, p, q⟩ := hbody cdv A outer s H vs Q E hr h
  exact ⟨t, p.un, q⟩
end L3
namespace L3
open PySem L2
noncomputable def D.ty : D → String
  | .non => "NoneType"
  | .bl _ => "bool"
  | .int _ => "int"
  | .str _ => "str"
  | .tup _ => "tuple"
  | .lst _ => "list"
  | .emp => "dict"
theorem Rep.ty {K : PySem.W.Frag} {H : Hp} {v : V} {e : D} (h : Rep H v e) : TyOf K H v (.type e.ty) := by
  cases h with
  | non => exact .non
  | bl b => exact .bl b
  | int i => exact .int i
  | str x => exact .str x
  | tup e _ => exact .tup e
  | lst e _ => exact .lst e
  | emp e => exact .dK e
noncomputable def D.isTup : D → Bool
  | .tup _ => true
  | _ => false
noncomputable def D.isLst : D → Bool
  | .lst _ => true
  | _ => false
noncomputable def D.isBl : D → Bool
  | .bl _ => true
  | _ => false
noncomputable def D.isNum : D → Bool
  | .int _ => true
  | .bl _ => true
  | _ => false
theorem kit_tuple (K : PySem.W.Frag) : ∀ e : D, PySem.W.kitOne K (.type e.ty) (.type "tuple") = some e.isTup
  | .non => by kernel_rfl
  | .bl _ => by kernel_rfl
  | .int _ => by kernel_rfl
  | .str _ => by kernel_rfl
  | .tup _ => by kernel_rfl
  | .lst _ => by kernel_rfl
  | .emp => by kernel_rfl
theorem kit_list (K : PySem.W.Frag) : ∀ e : D, PySem.W.kitOne K (.type e.ty) (.type "list") = some e.isLst
  | .non => by kernel_rfl
  | .bl _ => by kernel_rfl
  | .int _ => by kernel_rfl
  | .str _ => by kernel_rfl
  | .tup _ => by kernel_rfl
  | .lst _ => by kernel_rfl
  | .emp => by kernel_rfl
theorem kit_int (K : PySem.W.Frag) : ∀ e : D, PySem.W.kitOne K (.type e.ty) (.type "int") = some e.isNum
  | .non => by kernel_rfl
  | .bl _ => by kernel_rfl
  | .int _ => by kernel_rfl
  | .str _ => by kernel_rfl
  | .tup _ => by kernel_rfl
  | .lst _ => by kernel_rfl
  | .emp => by kernel_rfl
theorem kit_bool (K : PySem.W.Frag) : ∀ e : D, PySem.W.kitOne K (.type e.ty) (.type "bool") = some e.isBl
  | .non => by kernel_rfl
  | .bl _ => by kernel_rfl
  | .int _ => by kernel_rfl
  | .str _ => by kernel_rfl
  | .tup _ => by kernel_rfl
  | .lst _ => by kernel_rfl
  | .emp => by kernel_rfl
end L3
namespace L3
open PySem L2
end L3
namespace L3
open PySem L2 PyProof.Rows
theorem okQ {P : Program} {w : World} {K : PySem.W.Frag} {mg : Str → Option Value} {base : Heap} {x : Str} {st : Stmt} {f : Addr} {fd : FuncData} {N ps : List Str} {k : Nat} {sp : Sp} (F : Fun K x x st f fd) (S : FnScope N ps (defScope st))
    (len : ∀ vs H Q E, sp vs H Q E → vs.length = ps.length)
    (hbody : ∀ (cdv : Value) (A : Around) (outer : List Env) (s : Shared) (H : Hp) (vs : List V) (Q : VK) (E : XK), Room k (A.deeper (envOfC x (defScope st) s.heap.objs.size f cdv)) → sp vs H Q E →
      ∃ t, QSs (cxOf CX0 P w K mg base N x (defScope st) f cdv A outer s H E).nox (defBody st) t ∧ t { nx := fun _ H' => Q .non H', rt := Q } (start N vs) H) : FnOk P w K mg base CX0 (k + 1) f fd ps sp := by
  refine F.ok S len (fun cdv A outer s H vs Q E hr h => ?_)
  obtain ⟨t, p, q⟩ := hbody cdv A outer s H vs Q E hr h
  exact ⟨t, p.un, q⟩
end L3
namespace L3
open PySem PySem.Spec PyProof.Rows L2
section
variable {X : Cx}
noncomputable def CDivB (i j : Int) : Prop := 0 < j ∧ j < 2 ^ 1000
theorem op_fdivB : OpR X (binaryOp .FloorDiv) (rI CDivB fun i j => .int (i / j)) := opI fun i j _ _ _ _ _ hc q => by
  refine floordiv_int (by have := hc.1; lia) (by rw [Int.fdiv_eq_ediv_of_nonneg _ (Int.le_of_lt hc.1)]; exact q) (.inl (PyProof.noPylong_of_log2 ?_))
  by_cases h0 : j.natAbs = 0
  · rw [h0]; decide +kernel
  · have : j.natAbs < 2 ^ 1000 := by have := hc.1; have := hc.2; lia
    exact Nat.lt_trans ((Nat.log2_lt h0).mpr this) (by decide)
theorem rDivB : ROp X (binaryOp .FloorDiv) (rI CDivB fun i j => .int (i / j)) := .mk op_fdivB
noncomputable def rMaxL (K : PySem.W.Frag) : List V → Hp → VK → Prop := fun xs H Q => ∃ (p : Addr) (ns : List Int), xs = [.ref p] ∧ SqL K H p (ns.map V.int) ∧ 0 < ns.length ∧ ∀ M, M ∈ ns → (∀ a ∈ ns, a ≤ M) → Q (.int M) H
theorem call_maxL (hc : X.calm = true) : CallR X (.builtin "max") (rMaxL X.K) := by
  intro pins s σ H xs us Q I rv h
  obtain ⟨p, ns, rfl, hp, hne, q⟩ := h
  obtain ⟨u, rfl, ru⟩ := vals1 rv
  cases ru
  obtain ⟨its, r, pl, hz⟩ := I.list hp
  have hi := intsAre_of r
  obtain ⟨ys, e⟩ := hi.allInts.items
  have hns : ns = ys.toList.map (·.1) := by rw [← hi.numsOf, ← nums_intItems, ← e]
  have hsz : 0 < ys.size := by
    have h3 := hne; rw [hns, List.length_map, Array.length_toList] at h3; exact h3
  have hl := pl.isList
  rw [e] at hl
  refine max_intList (I.ok.hd hc) hl hsz fun v h' tk hv hk => ?_
  obtain ⟨t, rfl⟩ := intItems_at hv
  obtain ⟨h1, h2⟩ := argBest_gt (numAt ys) (ys.size - 1)
  refine ⟨.int _, H, I.kept hk, ⟨t, rfl⟩, q _ ?_ fun a ha => ?_⟩
  · rw [hns, numAt_eq]; exact getD_mem (by rw [List.length_map, Array.length_toList]; lia)
  · rw [hns] at ha
    obtain ⟨j, hj, rfl⟩ := mem_getD ha
    rw [List.length_map, Array.length_toList] at hj
    rw [← numAt_eq]; exact h2 j (by lia)
noncomputable def rSumL (K : PySem.W.Frag) : List V → Hp → VK → Prop := fun xs H Q => ∃ (p : Addr) (ns : List Int), xs = [.ref p] ∧ SqL K H p (ns.map V.int) ∧ Q (.int ns.sum) H
theorem call_sumL (hc : X.calm = true) : CallR X (.builtin "sum") (rSumL X.K) := by
  intro pins s σ H xs us Q I rv h
  obtain ⟨p, ns, rfl, hp, q⟩ := h
  obtain ⟨u, rfl, ru⟩ := vals1 rv
  cases ru
  obtain ⟨its, r, pl, hz⟩ := I.list hp
  have hi := intsAre_of r
  obtain ⟨ys, e⟩ := hi.allInts.items
  have hns : ns = ys.toList.map (·.1) := by rw [← hi.numsOf, ← nums_intItems, ← e]
  have hl := pl.isList
  rw [e] at hl
  refine sum_intListG (I.ok.hd hc) hl fun h' tk t' hk => ?_
  refine ⟨.int ns.sum, H, I.kept hk, ⟨t', ?_⟩, q⟩
  rw [preSum_eq, hns, List.take_of_length_le (by rw [List.length_map, Array.length_toList]; exact Nat.le_refl _)]
noncomputable def rAllB (K : PySem.W.Frag) : List V → Hp → VK → Prop := fun xs H Q => ∃ (p : Addr) (bs : List Bool), xs = [.ref p] ∧ SqL K H p (bs.map V.bl) ∧ Q (.bl (bs.all id)) H
theorem all_range : ∀ (bs : List Bool), (List.range bs.length).all (fun i => bs.getD i true) = bs.all id
  | [] => rfl
  | b :: r => by
    rw [List.length_cons, List.range_succ_eq_map, List.all_cons, List.all_map, List.all_cons]
    have := all_range r
    congr 1
theorem call_allB (hc : X.calm = true) : CallR X (.builtin "all") (rAllB X.K) := by
  intro pins s σ H xs us Q I rv h
  obtain ⟨p, bs, rfl, hp, q⟩ := h
  obtain ⟨u, rfl, ru⟩ := vals1 rv
  cases ru
  obtain ⟨its, r, pl, hz⟩ := I.list hp
  have hlen := r.length
  rw [List.length_map] at hlen
  have hlt : p < s.heap.objs.size := by obtain ⟨_, e, _⟩ := pl.isList; exact Heap.lt_size e
  refine call_all_walk (wpAny_pyIter_list pl.isList ?_)
  refine ⟨s.heap.objs.size, _, _, _, _, _, fun i => bs.getD i true, rfl, Walks.list (A := X.A.in1) (I.ok.hd hc) _ p (Nat.ne_of_lt hlt) its.toArray, ⟨⟨_, Heap.get?_push_size _ rfl, rfl, rfl⟩, pl.isList.push _⟩, ?_, fun h' tk hk => ?_⟩
  · intro i v s' Q' E' hP hQ
    have hP : its[i]? = some v := by simpa using hP
    have hi : i < its.length := (List.getElem?_eq_some_iff.mp hP).1
    have e1 : (bs.map V.bl)[i]? = some (V.bl (bs[i]'(by lia))) := by
      rw [List.getElem?_map, List.getElem?_eq_getElem (by lia)]; rfl
    obtain ⟨u, hu, ru⟩ := r.get e1
    rw [hP] at hu
    cases hu
    cases (show v = Value.bool _ from ru)
    refine wpAny_truthy_bool ?_
    have e2 : bs.getD i true = bs[i]'(by lia) := by rw [List.getD_eq_getElem?_getD, List.getElem?_eq_getElem (by lia)]; rfl
    rw [← e2]; exact hQ
  · refine ⟨.bl (bs.all id), H, ?_, ?_, q⟩
    · exact I.kept (t' := tk) fun b o e => hk b o (by simp; exact Nat.ne_of_lt (Heap.lt_size e)) (Heap.get?_push_of_some _ e)
    · show Value.bool _ = Value.bool _
      rw [List.size_toArray, ← hlen, all_range]
theorem fMax (K : PySem.W.Frag) (hc : X.calm = true := by rfl) (hK : X.K = K := by rfl) : RCall X (.builtin "max") (rMaxL K) := by subst hK; exact .mk (call_maxL hc)
theorem fSum (K : PySem.W.Frag) (hc : X.calm = true := by rfl) (hK : X.K = K := by rfl) : RCall X (.builtin "sum") (rSumL K) := by subst hK; exact .mk (call_sumL hc)
theorem fAll (K : PySem.W.Frag) (hc : X.calm = true := by rfl) (hK : X.K = K := by rfl) : RCall X (.builtin "all") (rAllB K) := by subst hK; exact .mk (call_allB hc)
theorem length_merge : ∀ (more kvs : List (Key × V)), (mergeK kvs more).length ≤ kvs.length + more.length
  | [], kvs => by simp [mergeK]
  | p :: r, kvs => by
    have h1 := length_merge r (putK kvs p.1 p.2)
    have h2 := length_putK kvs p.1 p.2
    show (mergeK (putK kvs p.1 p.2) r).length ≤ _
    rw [List.length_cons]; lia
end
end L3
namespace HT
open PySem PyProof.Rows
theorem rcGt_int (A : Around) (s : Shared) (a : Int) (t : Tok) (c : Int) (u : Tok) (prog : Program) (w : World) (E : Value → Shared → Prop) (Q : Value → Shared → Prop) (h : Q (.bool (decide (c < a))) s) :
    wpAny (model prog w) A (richCompare .Gt (.int a t) (.int c u)) Q E s :=
  (PyProof.Rows.gt_int h : wpAny (model prog w) A (compareOp .Gt (.int a t) (.int c u)) Q E s)
theorem rcLe_int (A : Around) (s : Shared) (a : Int) (t : Tok) (c : Int) (u : Tok) (prog : Program) (w : World) (E : Value → Shared → Prop) (Q : Value → Shared → Prop) (h : Q (.bool (decide (a ≤ c))) s) :
    wpAny (model prog w) A (richCompare .LtE (.int a t) (.int c u)) Q E s :=
  (PyProof.Rows.le_int h : wpAny (model prog w) A (compareOp .LtE (.int a t) (.int c u)) Q E s)
section
open PySem.SeqAt
open PySem.AutoSeq1 (wpAny_loadPart')
open PySem.MeetsSeq PySem.MeetsSeq2 PySem.MeetsSeq3
theorem lex_end {vs ws : List Value} {ns ms : List Int} {a b : Nat} (hv : IntsAre vs ns) (hw : IntsAre ws ms) (hz : vs.zip ws = []) (hl : ns.length + b = ms.length + a) : lexLt ns ms = decide (a < b) := by
  cases hv with
  | nil =>
    cases hw with
    | nil =>
      simp only [List.length_nil] at hl
      exact (decide_eq_false (by lia)).symm
    | cons c u hw =>
      simp only [List.length_nil, List.length_cons] at hl
      exact (decide_eq_true (by lia)).symm
  | cons a t hv =>
    cases hw with
    | nil =>
      simp only [List.length_nil, List.length_cons] at hl
      exact (decide_eq_false (by lia)).symm
    | cons c u hw => cases hz
theorem zip_nil_symm {vs ws : List Value} (h : vs.zip ws = []) : ws.zip vs = [] := by
  cases vs with
  | nil => simp
  | cons a r =>
    cases ws with
    | nil => simp
    | cons b t => cases h
theorem tuple_gt_ints (l b : Addr) (items items2 : Array Value) (n n2 : Nat) (dd dd2 : Option Addr) (sl sl2 : Array (Option Value)) (ns ms : List Int) (hi : IntsAre items.toList ns) (hj : IntsAre items2.toList ms) :
    Meets (Builtin.«tuple.__gt__» ⟨[.ref l, .ref b], []⟩)
      (fun _ R s => s.heap.get? l = some { cls := .type "tuple", dict := dd, data := .seq items n, slots := sl } ∧ s.heap.get? b = some { cls := .type "tuple", dict := dd2, data := .seq items2 n2, slots := sl2 } ∧
        R (.ok (.ret (.bool (lexLt ms ns)))) s) :=
  .of_wp fun prog w A R s h => by
    obtain ⟨hp, g, d, tk, os⟩ := s; obtain ⟨hl, hb, h⟩ := h
    have f2 := AutoSeq1.sub_tuple_tuple
    have z1 : items.size = ns.length := by rw [← hi.length]; simp
    have z2 : items2.size = ms.length := by rw [← hj.length]; simp
    wp_walk using wpAny_loadPart' hl, wpAny_loadPart' hb, wpAny_forIn_list _ (fun rest b s' => b.1 = none ∧ s' = ⟨hp, g, d, tk, os⟩ ∧ ∃ (vs ws : List Value) (ns' ms' : List Int), rest = vs.zip ws ∧
      IntsAre vs ns' ∧ IntsAre ws ms' ∧ ns'.length + items2.size = ms'.length + items.size ∧ R (.ok (.ret (.bool (lexLt ms' ns')))) ⟨hp, g, d, tk, os⟩) _
    case turn =>
      rintro ⟨y, x⟩ rest b s' ⟨hb', rfl, vs, ws, ns', ms', hz, hvi, hwi, hlen, hR⟩
      cases hvi with
      | nil => rw [List.zip_nil_left] at hz; cases hz
      | cons a t hvi' =>
        cases hwi with
        | nil => rw [List.zip_nil_right] at hz; cases hz
        | cons c u hwi' =>
          rw [List.zip_cons_cons] at hz
          injection hz with hyx hrest
          injection hyx with hy hx
          subst hy hx
          rw [lexLt_cons] at hR
          simp only [List.length_cons] at hlen
          obtain ⟨e, he, hiff⟩ := eqAt_int A.in1 ⟨hp, g, d, tk, os⟩ a t c u
          refine wpAny_bind (he prog w _ _ ?_)
          cases e with
          | true =>
            rw [if_pos (hiff.mp rfl).symm] at hR
            wp_walk
            exact ⟨rfl, rfl, _, _, _, _, hrest, hvi', hwi', by lia, hR⟩
          | false =>
            rw [if_neg (fun q => absurd (hiff.mpr q.symm) Bool.false_ne_true)] at hR
            have hri := rcGt_int A.in1 ⟨hp, g, d, tk, os⟩ a t c u prog w
            wp_walk using hri
            exact ⟨_, rfl, by simpa using hR⟩
    case fin =>
      rintro ⟨b1, b2⟩ s' ⟨hb', rfl, vs, ws, ns', ms', hz, hvi, hwi, hlen, hR⟩
      simp only at hb'
      subst hb'
      have hv : lexLt ms' ns' = decide (items2.size < items.size) := lex_end hwi hvi (zip_nil_symm hz.symm) (by lia)
      rw [hv] at hR
      wp_walk
      exact ⟨_, rfl, by simpa [Builtin.Tuple.tupleCompareSizes] using hR⟩
    case h =>
      exact ⟨rfl, rfl, items.toList, items2.toList, ns, ms, rfl, hi, hj, by lia, h⟩
theorem tuple_le_ints (l b : Addr) (items items2 : Array Value) (n n2 : Nat) (dd dd2 : Option Addr) (sl sl2 : Array (Option Value)) (ns ms : List Int) (hi : IntsAre items.toList ns) (hj : IntsAre items2.toList ms) :
    Meets (Builtin.«tuple.__le__» ⟨[.ref l, .ref b], []⟩)
      (fun _ R s => s.heap.get? l = some { cls := .type "tuple", dict := dd, data := .seq items n, slots := sl } ∧ s.heap.get? b = some { cls := .type "tuple", dict := dd2, data := .seq items2 n2, slots := sl2 } ∧
        R (.ok (.ret (.bool (!lexLt ms ns)))) s) :=
  .of_wp fun prog w A R s h => by
    obtain ⟨hp, g, d, tk, os⟩ := s; obtain ⟨hl, hb, h⟩ := h
    have f2 := AutoSeq1.sub_tuple_tuple
    have z1 : items.size = ns.length := by rw [← hi.length]; simp
    have z2 : items2.size = ms.length := by rw [← hj.length]; simp
    wp_walk using wpAny_loadPart' hl, wpAny_loadPart' hb, wpAny_forIn_list _ (fun rest b s' => b.1 = none ∧ s' = ⟨hp, g, d, tk, os⟩ ∧ ∃ (vs ws : List Value) (ns' ms' : List Int), rest = vs.zip ws ∧
      IntsAre vs ns' ∧ IntsAre ws ms' ∧ ns'.length + items2.size = ms'.length + items.size ∧ R (.ok (.ret (.bool (!lexLt ms' ns')))) ⟨hp, g, d, tk, os⟩) _
    case turn =>
      rintro ⟨y, x⟩ rest b s' ⟨hb', rfl, vs, ws, ns', ms', hz, hvi, hwi, hlen, hR⟩
      cases hvi with
      | nil => rw [List.zip_nil_left] at hz; cases hz
      | cons a t hvi' =>
        cases hwi with
        | nil => rw [List.zip_nil_right] at hz; cases hz
        | cons c u hwi' =>
          rw [List.zip_cons_cons] at hz
          injection hz with hyx hrest
          injection hyx with hy hx
          subst hy hx
          rw [lexLt_cons] at hR
          simp only [List.length_cons] at hlen
          obtain ⟨e, he, hiff⟩ := eqAt_int A.in1 ⟨hp, g, d, tk, os⟩ a t c u
          refine wpAny_bind (he prog w _ _ ?_)
          cases e with
          | true =>
            rw [if_pos (hiff.mp rfl).symm] at hR
            wp_walk
            exact ⟨rfl, rfl, _, _, _, _, hrest, hvi', hwi', by lia, hR⟩
          | false =>
            have hne : ¬ a = c := fun q => absurd (hiff.mpr q) Bool.false_ne_true
            rw [if_neg (fun q => hne q.symm)] at hR
            have hd : (!decide (c < a)) = decide (a ≤ c) := by
              by_cases h : c < a
              · rw [decide_eq_true h, decide_eq_false (by lia)]; rfl
              · rw [decide_eq_false h, decide_eq_true (by lia)]; rfl
            rw [hd] at hR
            have hri := rcLe_int A.in1 ⟨hp, g, d, tk, os⟩ a t c u prog w
            wp_walk using hri
            exact ⟨_, rfl, by simpa using hR⟩
    case fin =>
      rintro ⟨b1, b2⟩ s' ⟨hb', rfl, vs, ws, ns', ms', hz, hvi, hwi, hlen, hR⟩
      simp only at hb'
      subst hb'
      have hv : (!lexLt ms' ns') = decide (items.size ≤ items2.size) := by
        rw [lex_end hwi hvi (zip_nil_symm hz.symm) (a := items2.size) (b := items.size) (by lia)]
        by_cases h : items2.size < items.size
        · rw [decide_eq_true h, decide_eq_false (by lia)]; rfl
        · rw [decide_eq_false h, decide_eq_true (by lia)]; rfl
      rw [hv] at hR
      wp_walk
      exact ⟨_, rfl, by simpa [Builtin.Tuple.tupleCompareSizes] using hR⟩
    case h =>
      exact ⟨rfl, rfl, items.toList, items2.toList, ns, ms, rfl, hi, hj, by lia, h⟩
end
section
variable {prog : Program} {w : World} {A : Around} {E : Value → Shared → Prop} {s : Shared}
theorem gt_tupInts {l b : Addr} {items items2 : Array Value} {ns ms : List Int} {Q : Value → Shared → Prop} (hl : IsTup s.heap l items) (hb : IsTup s.heap b items2) (hi : IntsAre items.toList ns) (hj : IntsAre items2.toList ms)
    (hu : A.units < cLine) (h : Q (.bool (lexLt ms ns)) s) : wpAny (model prog w) A (compareOp .Gt (.ref l) (.ref b)) Q E s := by
  obtain ⟨⟨cls, dd, data, sl⟩, ho, hc, n, hd⟩ := id hl
  obtain ⟨⟨cls2, dd2, data2, sl2⟩, ho2, hc2, n2, hd2⟩ := id hb
  simp only at hc hd hc2 hd2
  subst hc hd hc2 hd2
  exact richCompare_meets_room (op := .Gt) ⟨_, ho, rfl⟩ ⟨_, ho2, rfl⟩ PySem.F.slot_tuple_gt PySem.F.entry_tuple_gt (PySem.F.args_tuple_gt_2 _ _) (tuple_gt_ints l b items items2 n n2 dd dd2 sl sl2 ns ms hi hj)
    ⟨ho, ho2, show Value.bool (lexLt ms ns) ≠ Value.notImplemented ∧ Q (.bool (lexLt ms ns)) s from ⟨(fun x => nomatch x), h⟩⟩ hu
theorem le_tupInts {l b : Addr} {items items2 : Array Value} {ns ms : List Int} {Q : Value → Shared → Prop} (hl : IsTup s.heap l items) (hb : IsTup s.heap b items2) (hi : IntsAre items.toList ns) (hj : IntsAre items2.toList ms)
    (hu : A.units < cLine) (h : Q (.bool (!lexLt ms ns)) s) : wpAny (model prog w) A (compareOp .LtE (.ref l) (.ref b)) Q E s := by
  obtain ⟨⟨cls, dd, data, sl⟩, ho, hc, n, hd⟩ := id hl
  obtain ⟨⟨cls2, dd2, data2, sl2⟩, ho2, hc2, n2, hd2⟩ := id hb
  simp only at hc hd hc2 hd2
  subst hc hd hc2 hd2
  exact richCompare_meets_room (op := .LtE) ⟨_, ho, rfl⟩ ⟨_, ho2, rfl⟩ PySem.F.slot_tuple_le PySem.F.entry_tuple_le (PySem.F.args_tuple_le_2 _ _) (tuple_le_ints l b items items2 n n2 dd dd2 sl sl2 ns ms hi hj)
    ⟨ho, ho2, show Value.bool (!lexLt ms ns) ≠ Value.notImplemented ∧ Q (.bool (!lexLt ms ns)) s from ⟨(fun x => nomatch x), h⟩⟩ hu
end
end HT
namespace L3
open PySem PySem.Spec PyProof.Rows L2
section
variable {X : Cx}
noncomputable def rGtG (K : PySem.W.Frag) : R2 := fun x y H Q => match x, y with
  | .ref a, .ref b => ∃ ns ms, SqT K H a (ns.map V.int) ∧ SqT K H b (ms.map V.int) ∧ Q (.bl (HT.lexLt ms ns)) H
  | x, y => rI0 (fun i j => .bl (decide (j < i))) x y H Q
noncomputable def rLeG (K : PySem.W.Frag) : R2 := fun x y H Q => match x, y with
  | .ref a, .ref b => ∃ ns ms, SqT K H a (ns.map V.int) ∧ SqT K H b (ms.map V.int) ∧ Q (.bl (!HT.lexLt ms ns)) H
  | x, y => rI0 (fun i j => .bl (decide (i ≤ j))) x y H Q
theorem op_gtG (hu : X.A.units < cLine) : OpR X (compareOp .Gt) (rGtG X.K) := by
  intro pins s σ H x y v u Q I rx ry h
  unfold rGtG at h
  split at h
  · obtain ⟨ns, ms, ha, hb, q⟩ := h
    cases rx
    cases ry
    obtain ⟨its, r1, p1, _⟩ := I.tuple ha
    obtain ⟨its2, r2, p2, _⟩ := I.tuple hb
    exact HT.gt_tupInts p1 p2 (intsAre_of r1) (intsAre_of r2) hu ⟨.bl _, H, I, rfl, q⟩
  · exact op_gt pins s σ H _ _ v u Q I rx ry h
theorem op_leG (hu : X.A.units < cLine) : OpR X (compareOp .LtE) (rLeG X.K) := by
  intro pins s σ H x y v u Q I rx ry h
  unfold rLeG at h
  split at h
  · obtain ⟨ns, ms, ha, hb, q⟩ := h
    cases rx
    cases ry
    obtain ⟨its, r1, p1, _⟩ := I.tuple ha
    obtain ⟨its2, r2, p2, _⟩ := I.tuple hb
    exact HT.le_tupInts p1 p2 (intsAre_of r1) (intsAre_of r2) hu ⟨.bl _, H, I, rfl, q⟩
  · exact op_le pins s σ H _ _ v u Q I rx ry h
theorem rGtQ {k : Nat} {A : Around} (K : PySem.W.Frag) (hr : Room k A) (hA : X.A = A := by rfl) (hK : X.K = K := by rfl) : ROp X (compareOp .Gt) (rGtG K) := by subst hK; exact .mk (op_gtG (by rw [hA]; have := hu_n hr; lia))
theorem rLeQ {k : Nat} {A : Around} (K : PySem.W.Frag) (hr : Room k A) (hA : X.A = A := by rfl) (hK : X.K = K := by rfl) : ROp X (compareOp .LtE) (rLeG K) := by subst hK; exact .mk (op_leG (by rw [hA]; have := hu_n hr; lia))
theorem vals_of_ints : ∀ {us : List Value} {ns : List Int}, IntsAre us ns → Vals (ns.map V.int) us
  | _, _, .nil => .nil
  | _, _, .cons n t r => .cons ⟨t, rfl⟩ (vals_of_ints r)
noncomputable def rSortL (K : PySem.W.Frag) : List V → Hp → VK → Prop := fun xs H Q => ∃ (p : Addr) (ns : List Int), xs = [.ref p] ∧ SqL K H p (ns.map V.int) ∧ ns.length < 64 ∧
  ∀ (q : Addr) (H' : Hp) (ns' : List Int), H q = none → Same H H' → H' q = some (.lst (ns'.map V.int)) → ns'.Perm ns → ns'.Pairwise (· ≤ ·) → Q (.ref q) H'
theorem call_sortL : CallR X (.builtin "sorted") (rSortL X.K) := by
  intro pins s σ H xs us Q I rv h
  obtain ⟨p, ns, rfl, hp, hn, q⟩ := h
  obtain ⟨u, rfl, ru⟩ := vals1 rv
  cases ru
  obtain ⟨its, r, pl, hz⟩ := I.list hp
  have hi := intsAre_of r
  have hlen := r.length
  rw [List.length_map] at hlen
  refine sorted_ints pl.isList hi (by lia) fun out ns' a1 a2 a3 => ?_
  obtain ⟨e, he⟩ := sortedAll_at s.heap its out
  have hl' : ns'.length = ns.length := a2.length_eq
  have hf : H (s.heap.objs.size + 1) = none := I.hok.fresh (Nat.le_succ _)
  refine ⟨.ref (s.heap.objs.size + 1), _, I.laid (t' := s.toks) (o := .lst (ns'.map V.int)) (fun b ob q => sortedAll_old q) (Nat.le_succ _) ⟨by rw [List.length_map]; exact Nat.le_of_lt (Nat.lt_of_lt_of_le (by lia : ns'.length < 64) (by decide)), out.toList, e, vals_of_ints a1, he⟩, rfl, q _ _ ns' hf (same_new hf) upd_same a2 a3⟩
theorem fSort (K : PySem.W.Frag) (hK : X.K = K := by rfl) : RCall X (.builtin "sorted") (rSortL K) := by subst hK; exact .mk call_sortL
end
end L3
namespace HT
open PySem PyProof.Rows
theorem getAttrQ_miss_list {prog : Program} {w : World} {A : Around} {E : Value → Shared → Prop} {s : Shared} {a : Addr} {xs : Array Value} {k : Nat} {sl : Array (Option Value)} {name : Str} {Q : Option Value → Shared → Prop}
    (hx : s.heap.get? a = some { cls := .type "list", dict := none, data := .seq xs k, slots := sl }) (hmiss : typeLookup (.type "list") name = pure none) (hname : (["__module__", "__name__", "__qualname__", "__doc__", "__annotations__"] : List Str).contains name = false) (hA : A.handled = none)
    (h : ∀ h' tk, (∀ b o, s.heap.get? b = some o → h'.get? b = some o) → Q none { s with heap := h', toks := tk }) (hsz : name.length + 100 ≤ sizeLine := by size_fits) :
    wpAny (model prog w) A (getAttr? (.ref a) name) Q E s := by
  obtain ⟨hp, g, d, tk, os⟩ := s
  have hT : ∀ tk', (⟨hp, g, d, tk', os⟩ : Shared).TypeIs (.ref a) "list" := fun _ => ⟨_, hx, rfl⟩
  have f1 := sub_AttributeError
  have f3 := PySem.F.slot_list_getattribute.lookup
  have f4 := PySem.F.slot_list_getattribute.bind (.ref a)
  have f5 := am_list_getattr_none
  unfold getAttr? getAttrBy? getAttrBy
  repeat (any_goals (first | assumption | exact hT _ | ((with_reducible show wpAny _ _ (call (Value.builtin "list.__getattribute__") _ _) _ _ _); refine call_meets PySem.F.slot_list_getattribute (hT _) am_entry_list_getattribute (PySem.F.args_list_getattribute_2 _ _) (meets_getattribute_miss_list a xs k _ name _ hmiss hname hsz) ⟨hx, hA, fun h' tk' e hx' => ?_⟩) | wp_step))
  obtain ⟨t', u', he⟩ := hx'.there
  show wpAny _ _ (getattributeRaised _ _ _ _ _ _ _) _ _ _
  unfold getattributeRaised
  repeat (any_goals (first | assumption | wp_step))
  exact h _ _ hx'.keeps
theorem entry_dul : entryFor table "dict.update.loop" = some Builtin.«dict.update.loop» := entryFor_of_tree (by kernel_rfl)
theorem plain_dul : plainId "dict.update.loop" = true := by decide +kernel
section
variable {prog : Program} {w : World} {A : Around} {R : Result → Shared → Prop} {I : Addr} {fp wr : List Addr} {n : Nat} {P : Nat → Value → Prop} {St : Nat → Heap → Prop} {K : Type} [DecidableEq K] {knd : KeyKind prog w K}
noncomputable def accP (ps : Nat → K × Value) : Nat → List (K × Value)
  | 0 => []
  | i + 1 => stored (accP ps i) (ps i).1 (ps i).2
theorem stored_len (kvs : List (K × Value)) (k : K) (v : Value) : (stored kvs k v).length ≤ kvs.length + 1 := by
  induction kvs with
  | nil => simp [stored]
  | cons p r ih => unfold stored; split <;> simp_all
theorem accP_len (ps : Nat → K × Value) : ∀ i, (accP ps i).length ≤ i
  | 0 => Nat.le_refl _
  | i + 1 => by have := accP_len ps i; have := stored_len (accP ps i) (ps i).1 (ps i).2; rw [accP]; lia
theorem code_dul (W : Walks prog w A.in1 I fp wr n P St) (S : Addr) (hSf : S ∉ fp) (T : Nat → Addr) (ps : Nat → K × Value) (hT : ∀ i v, i < n → P i v → v = .ref (T i)) (hTn : ∀ i, i < n → T i ∉ S :: wr) (hb : n ≤ sizeLine) :
    ∀ (k i : Nat) (c : Int) (s : Shared), n - i = k → i ≤ n → St i s.heap → (∀ j, j < n → ∃ key, s.heap.IsTuple (T j) #[key, (ps j).2] ∧ knd.is (ps j).1 key = true) → s.heap.DictOf knd S (accP ps i) →
      (∀ h' tk, (∀ b o, b ∉ S :: wr → s.heap.get? b = some o → h'.get? b = some o) → h'.DictOf knd S (accP ps n) → R (.ok (.ret .none)) { s with heap := h', toks := tk }) →
      codeAny (model prog w) A (.builtin "dict.update.loop" ⟨[.ref S, .ref I, rawInt c, .none], []⟩) R s := by
  have hSw : S ∉ wr := fun h => hSf (W.sub _ h)
  intro k
  induction k with
  | zero =>
    intro i c s hk hi hst hp hS hR
    have hin : i = n := by lia
    subst hin
    refine codeAny_builtin entry_dul ?_
    rw [Around.under_plainId plain_dul _]
    show wpAny _ A.in1 (pyNext (.ref I) >>= _) _ _ s
    refine wpAny_bind (W.done s _ _ hst fun h' tk hm => ?_)
    show wpAny _ A.in1 (Builtin.Dict.addKeywords S [] >>= _) _ _ _
    refine wpAny_bind (wpAny_pure (wpAny_pure (hR h' tk (fun b o hb e => hm b o (fun z => hb (List.mem_cons_of_mem _ z)) e) ?_)))
    exact hS.at fun o e => hm S o hSw e
  | succ k ih =>
    intro i c s hk hi hst hp hS hR
    have hlt : i < n := by lia
    refine codeAny_builtin entry_dul ?_
    rw [Around.under_plainId plain_dul _]
    show wpAny _ A.in1 (pyNext (.ref I) >>= _) _ _ s
    refine wpAny_bind (W.item i s _ _ hlt hst fun v h' tk hP hst' hm => ?_)
    cases hT i v hlt hP
    have hm' : ∀ j, j < n → ∃ key, h'.IsTuple (T j) #[key, (ps j).2] ∧ knd.is (ps j).1 key = true := fun j hj => by
      obtain ⟨key, ⟨o, ho, r⟩, hkey⟩ := hp j hj
      exact ⟨key, ⟨o, hm _ _ (fun z => hTn j hj (List.mem_cons_of_mem _ z)) ho, r⟩, hkey⟩
    obtain ⟨key, ⟨o, ho, hc, m, hd⟩, hkey⟩ := hm' i hlt
    have hS' : h'.DictOf knd S (accP ps i) := hS.at fun o e => hm S o hSw e
    have hty : Shared.TypeIs { s with heap := h', toks := tk } (.ref (T i)) "tuple" := ⟨o, ho, hc⟩
    refine wpAny_bind (wpAny_holding (wpAny_bind (wpAny_tryCatch ?_)))
    unfold Builtin.Dict.pairItems
    refine wpAny_bind (wpAny_typeOf hty ?_)
    rw [if_pos (by decide)]
    refine wpAny_bind (wpAny_seqItems ho hd ?_)
    refine wpAny_pure ?_
    have hroom : (accP ps i).length ≤ sizeLine := by have := accP_len ps i; lia
    refine wpAny_holding (wpAny_dictSet_pairs hkey hS' (fun h2 hd2 hsb => ?_) hroom)
    have hTS : ∀ j, j < n → T j ≠ S := fun j hj z => hTn j hj (by rw [z]; exact List.mem_cons_self)
    refine wpAny_pure ⟨plainId_quiet plain_dul _, ih (i + 1) (c + 1) _ (by lia) hlt (W.frame _ h' _ hst' fun b hb o e => ?_) (fun j hj => ?_) hd2 fun h3 tk3 hm3 hd3 => ?_⟩
    · rw [hsb.2 b (fun z => hSf (by rw [← z]; exact hb))]; exact e
    · obtain ⟨key, t, hk'⟩ := hm' j hj
      exact ⟨key, t.at fun o e => by rw [hsb.2 _ (hTS j hj)]; exact e, hk'⟩
    · refine hR h3 tk3 (fun b o hb e => ?_) hd3
      refine hm3 b o hb ?_
      rw [hsb.2 b (fun z => hb (by rw [z]; exact List.mem_cons_self))]
      exact hm b o (fun z => hb (List.mem_cons_of_mem _ z)) e
end
section
variable {prog : Program} {w : World} {A : Around} {E : Value → Shared → Prop} {s : Shared} {K : Type} [DecidableEq K] {knd : KeyKind prog w K}
theorem miss_keys_list : typeLookup (.type "list") "keys" = pure none := am_miss_of_fast (by kernel_rfl)
theorem call_dict_pairs {l : Addr} {vs : List Value} {k : Nat} {sl : Array (Option Value)} {T : Nat → Addr} {ps : Nat → K × Value} {Q : Value → Shared → Prop} (hh : A.handled = none) (hl : s.heap.get? l = some { cls := .type "list", dict := none, data := .seq vs.toArray k, slots := sl })
    (hT : ∀ (i : Nat) (v : Value), vs[i]? = some v → v = .ref (T i)) (hp : ∀ j, j < vs.length → ∃ key, s.heap.IsTuple (T j) #[key, (ps j).2] ∧ knd.is (ps j).1 key = true) (hb : vs.length ≤ sizeLine)
    (h : ∀ h' tk, (∀ b o, s.heap.get? b = some o → h'.get? b = some o) → h'.DictOf knd s.heap.objs.size (accP ps vs.length) → Q (.ref s.heap.objs.size) { s with heap := h', toks := tk }) :
    wpAny (model prog w) A (call (.type "dict") [.ref l]) Q E s := by
  refine callType_codes (Q₁ := fun (obj : Value) (s₁ : Shared) => obj = Value.ref s.heap.objs.size ∧ s₁ = { s with heap := s.heap.push { cls := .type "dict", data := .dict #[] } }) PySem.F.kt_called_dict (PySem.F.kt_typeCall_dict_1 _) PySem.F.entry_dict_init (kt_code_dict_new _ ⟨rfl, rfl⟩) ?_
  rintro obj s₁ ⟨rfl, rfl⟩
  have hnew : (s.heap.push { cls := .type "dict", data := .dict #[] }).DictOf knd s.heap.objs.size [] := Heap.DictOf.new s.heap
  have hl' : (s.heap.push { cls := .type "dict", data := .dict #[] }).get? l = some { cls := .type "list", dict := none, data := .seq vs.toArray k, slots := sl } := Heap.get?_push_of_some _ hl
  have hty : Shared.TypeIs { s with heap := s.heap.push { cls := .type "dict", data := .dict #[] } } (.ref l) "list" := ⟨_, hl', rfl⟩
  refine ⟨hnew.typeIs, PySem.F.args_dict_init_2 _ _, ?_⟩
  unfold Builtin.«dict.__init__»
  refine wpAny_bind ?_
  unfold Builtin.Dict.selfAndRest
  refine wpAny_bind (wpAny_notOrdered_dict hnew.typeIs ?_)
  show wpAny _ _ (pure (s.heap.objs.size, [Value.ref l])) _ _ _
  refine wpAny_pure ?_
  show wpAny _ _ (Builtin.Dict.updateFrom "dict.__init__" s.heap.objs.size (.ref l) [] .none) _ _ _
  unfold Builtin.Dict.updateFrom
  refine wpAny_bind (wpAny_typeOf hty ?_)
  rw [if_pos (by decide)]
  refine wpAny_bind (getAttrQ_miss_list hl' miss_keys_list (by decide) (by simp [hh]) (fun h2 tk2 k2 => ?_))
  have hl2 : h2.IsList l vs.toArray := ⟨_, k2 _ _ hl', rfl, k, rfl⟩
  simp only [Option.isNone_none, if_true]
  refine wpAny_bind (wpAny_rule ?_)
  refine wpAny_bind (wpAny_pyIter_list hl2 ?_)
  have hlt : l < s.heap.objs.size := Heap.lt_size hl
  have hSz : (s.heap.push { cls := .type "dict", data := .dict #[] }).get? s.heap.objs.size = some { cls := .type "dict", data := .dict #[] } := Heap.get?_push_size _ rfl
  have hS2 : s.heap.objs.size < h2.objs.size := Heap.lt_size (k2 _ _ hSz)
  have hTt : ∀ j, j < vs.length → T j < s.heap.objs.size := fun j hj => by
    obtain ⟨key, ⟨o, ho, _⟩, _⟩ := hp j hj
    exact Heap.lt_size ho
  refine wpAny_pure ⟨plainId_quiet plain_dul _, code_dul (knd := knd) (n := vs.toArray.size) (Walks.list (by simp [hh]) h2.objs.size l (Nat.ne_of_lt (Nat.lt_trans hlt hS2)) vs.toArray) s.heap.objs.size ?_ T ps ?_ ?_ (by rw [List.size_toArray]; exact hb) _ 0 0 _ rfl (Nat.zero_le _) ?_ ?_ ?_ ?_⟩
  · simp only [List.mem_cons, List.not_mem_nil, or_false, not_or]; exact ⟨Nat.ne_of_lt hS2, Nat.ne_of_gt hlt⟩
  · intro i v _ hv
    exact hT i v (by simpa using hv)
  · intro i hi
    rw [List.size_toArray] at hi
    have := hTt i hi
    simp only [List.mem_cons, List.not_mem_nil, or_false, not_or]; exact ⟨Nat.ne_of_lt this, Nat.ne_of_lt (Nat.lt_trans this hS2)⟩
  · exact ⟨⟨_, Heap.get?_push_size _ rfl, rfl, rfl⟩, hl2.push _⟩
  · intro j hj
    rw [List.size_toArray] at hj
    obtain ⟨key, t, hk⟩ := hp j hj
    exact ⟨key, t.at fun o e => Heap.get?_push_of_some _ (k2 _ _ (Heap.get?_push_of_some _ e)), hk⟩
  · exact (hnew.at fun o e => k2 _ _ e).at fun o e => Heap.get?_push_of_some _ e
  · intro h3 tk3 hm3 hd3
    rw [List.size_toArray] at hd3
    refine ⟨rfl, h h3 tk3 (fun b o e => ?_) hd3⟩
    have hbl := Heap.lt_size e
    refine hm3 b o ?_ (Heap.get?_push_of_some _ (k2 _ _ (Heap.get?_push_of_some _ e)))
    simp only [List.mem_cons, List.not_mem_nil, or_false, not_or]; exact ⟨Nat.ne_of_lt hbl, Nat.ne_of_lt (Nat.lt_trans hbl hS2)⟩
end
end HT
namespace L3
open PySem PySem.Spec PyProof.Rows L2
section
variable {X : Cx}
theorem accP_eq {K : Type} [DecidableEq K] (d : K × Value) (us : List (K × Value)) : ∀ i, i ≤ us.length → HT.accP (fun j => us.getD j d) i = (us.take i).foldl (fun a p => stored a p.1 p.2) []
  | 0, _ => by simp [HT.accP]
  | i + 1, h => by
    have hi : us[i]? = some us[i] := List.getElem?_eq_getElem (by lia)
    rw [HT.accP, accP_eq d us i (by lia), List.take_add_one, hi, List.foldl_append]
    simp [List.getD_eq_getElem?_getD, hi]
theorem kv_fold : ∀ {prs : List (Key × V)} {us : List (Key × Value)}, KV prs us → ∀ {kvs : List (Key × V)} {vs : List (Key × Value)}, KV kvs vs → KV (mergeK kvs prs) (us.foldl (fun a p => stored a p.1 p.2) vs) := by
  intro prs us r
  unfold KV at r
  induction r with
  | nil => intro kvs vs h; exact h
  | @cons a b l₁ l₂ hk hr ih =>
    intro kvs vs h
    obtain ⟨k, v⟩ := a
    obtain ⟨k', u⟩ := b
    obtain ⟨rfl, hv⟩ := hk
    exact ih (h.put _ hv)
theorem pick_pairs {P : Program} {w : World} {H : Hp} {h : Heap} (ok : HOk P w H h) : ∀ (bs : List Addr) (prs : List (Key × V)), bs.length = prs.length → (∀ (j : Nat) b pr, bs[j]? = some b → prs[j]? = some pr → H b = some (.tup [kV pr.1, pr.2])) →
    ∃ us : List (Key × Value), KV prs us ∧ ∀ (j : Nat) b u, bs[j]? = some b → us[j]? = some u → ∃ key, h.IsTuple b #[key, u.2] ∧ (mixKind P w).is u.1 key = true := by
  intro bs
  induction bs with
  | nil =>
    intro prs hl hp
    cases prs with
    | nil => exact ⟨[], .nil, fun j b u e _ => by simp at e⟩
    | cons _ _ => cases hl
  | cons b bs ih =>
   intro prs hl hp
   cases prs with
   | nil => cases hl
   | cons pr prs =>
    obtain ⟨us, hk, hu⟩ := ih prs (by simpa using hl) (fun j b pr e1 e2 => hp (j + 1) b pr (by simpa using e1) (by simpa using e2))
    obtain ⟨_, its, r, t⟩ := ok b _ (hp 0 b pr rfl rfl)
    cases r with
    | cons r1 r =>
      cases r with
      | cons r2 r =>
        cases r
        refine ⟨(pr.1, _) :: us, .cons ⟨rfl, r2⟩ hk, fun j c u e1 e2 => ?_⟩
        cases j with
        | zero =>
          simp at e1 e2
          subst e1 e2
          exact ⟨_, IsTup.isT t, kV_is r1⟩
        | succ j => exact hu j c u (by simpa using e1) (by simpa using e2)
noncomputable def rDictP (K : PySem.W.Frag) : List V → Hp → VK → Prop := fun xs H Q => ∃ (p : Addr) (bs : List Addr) (prs : List (Key × V)), xs = [.ref p] ∧ SqL K H p (bs.map V.ref) ∧ bs.length = prs.length ∧
  (∀ (j : Nat) b pr, bs[j]? = some b → prs[j]? = some pr → H b = some (.tup [kV pr.1, pr.2])) ∧ New H (.dK (mergeK [] prs)) Q
theorem vals_refs : ∀ {bs : List Addr} {us : List Value}, Vals (bs.map V.ref) us → us = bs.map Value.ref
  | [], _, .nil => rfl
  | b :: bs, _, .cons r1 r => by
    cases (show _ = Value.ref b from r1)
    rw [vals_refs r]; rfl
theorem call_dictP (hc : X.calm = true) : CallR X (.type "dict") (rDictP X.K) := by
  intro pins s σ H xs us Q I rv h
  obtain ⟨p, bs, prs, rfl, hp, hl, hb, q⟩ := h
  obtain ⟨u, rfl, ru⟩ := vals1 rv
  cases ru
  obtain ⟨its, r, pl, hz⟩ := I.list hp
  have hits := vals_refs r
  subst hits
  obtain ⟨us, hk, hu⟩ := pick_pairs I.hok bs prs hl hb
  have hul : us.length = bs.length := by
    have : ∀ {a : List (Key × V)} {b : List (Key × Value)}, KV a b → b.length = a.length := fun h => by
      unfold KV at h
      induction h with
      | nil => rfl
      | cons _ _ ih => simp [ih]
    rw [this hk, hl]
  rw [List.length_map] at hz
  obtain ⟨o, n, ho, h1, h2, h3⟩ := pl
  obtain ⟨oc, od, odt, os⟩ := o
  simp only at h1 h2 h3
  subst h1 h2 h3
  refine HT.call_dict_pairs (knd := mixKind X.prog X.w) (T := fun j => bs.getD j 0) (ps := fun j => us.getD j (Sum.inl 0, Value.none)) (I.ok.hd hc) ho (fun i v hv => ?_) (fun j hj => ?_) (by rw [List.length_map]; exact hz) (fun h' tk hkp hd => ?_)
  · rw [List.getElem?_map] at hv
    obtain ⟨b, hb', rfl⟩ := Option.map_eq_some_iff.mp hv
    simp [List.getD_eq_getElem?_getD, hb']
  · rw [List.length_map] at hj
    have e1 : bs[j]? = some bs[j] := List.getElem?_eq_getElem hj
    have e2 : us[j]? = some (us[j]'(by lia)) := List.getElem?_eq_getElem (by lia)
    have := hu j _ _ e1 e2
    simpa [List.getD_eq_getElem?_getD, e1, e2] using this
  · rw [List.length_map, ← hul, accP_eq _ us us.length (Nat.le_refl _), List.take_length] at hd
    have hml := length_merge prs []
    rw [List.length_nil, Nat.zero_add, ← hl] at hml
    have hbig := I.big
    refine ⟨.ref s.heap.objs.size, _, I.laid (t' := tk) (o := .dK (mergeK [] prs)) hkp (Nat.le_refl _) (dk_new (Nat.le_trans hml hz) (by simpa using Nat.ne_of_gt hbig) (kv_fold hk .nil) hd), rfl, q.at I.fresh⟩
theorem fDictP (K : PySem.W.Frag) (hc : X.calm = true := by rfl) (hK : X.K = K := by rfl) : RCall X (.type "dict") (rDictP K) := by subst hK; exact .mk (call_dictP hc)
end
end L3
namespace L3
open PySem PySem.Spec PyProof.Rows L2
section
variable {X : Cx} {pins : List (Addr × Obj)} {σ : L2.St} {H : Hp} {s : Shared} {h' : Heap}
theorem _root_.L2.Inv.turnedL {t' : Nat} {its : List Addr} (I : Inv X pins σ H s) (k : ∀ b o, b ∉ its → s.heap.get? b = some o → h'.get? b = some o) (hf : ∀ b ∈ its, FpOk X pins H b) : Inv X pins σ H { s with heap := h', toks := t' } := by
  have nit : ∀ b u, H b = some u → b ∉ its := fun b u e z => by rw [(hf b z).1] at e; cases e
  have hL : X.env.locals ∉ its := fun z => (hf _ z).2.1 rfl
  refine I.step (g' := s.gens) (d' := s.drawn) (ch := its) (fun b hb => ?_) (fun b o _ _ hc e _ => k b o hc e) (fun b o _ _ hc e _ => ⟨o.slots, k b o hc e⟩) (fun _ _ _ _ n => n)
    (fun b o hc e => ⟨o, k b o hc e⟩) (fun _ _ e => e) (fun _ _ _ e => e) (fun b ps e => ⟨#[], by rw [e]; simp⟩) (fun m hm => ?_) (fun b u e => ?_) I.bare
  · obtain ⟨_, h1, _, h2, h3, h4⟩ := hf b hb
    exact ⟨h2, h1, h3, h4⟩
  · obtain ⟨o, es, ep, ho, r⟩ := hm
    exact ⟨o, es, ep, k _ o hL ho, r⟩
  · refine (I.hok b u e).stay (fun c v hc q => k c v ?_ q) (fun _ q => q) fun _ _ q => q
    rcases hc with z | z
    · rw [z]; exact nit b u e
    · exact nit c _ z
end
noncomputable def Ite (K : PySem.W.Frag) (a : Addr) : It :=
  ⟨fun i H => ∃ xs x, SqL K H a xs ∧ xs[i]? = some x, fun i H v H' => ∃ x T, (∀ xs, SqL K H a xs → xs[i]? = some x) ∧ v = .ref T ∧ H T = none ∧ H' = upd H T (.tup [.int i, x]), fun i H => ∃ xs, SqL K H a xs ∧ xs.length ≤ i⟩
theorem fpOk_upd {X : Cx} {pins : List (Addr × Obj)} {H : Hp} {T b : Addr} {o : HO} (h : FpOk X pins H b) (hb : b ≠ T) : FpOk X pins (upd H T o) b := by
  obtain ⟨h1, r⟩ := h
  exact ⟨by rw [upd_ne hb]; exact h1, r⟩
theorem turn_enum {P : Program} {w : World} {K : PySem.W.Frag} {elts : List Expr} {kk : Nat} {tp : Pos} (a e it : Addr) (hei : e ≠ it) : Turn P w K (.Tuple elts kk tp) (Ite K a) [e, it] e (fun i h => (∃ old, IsEnum h e it i old) ∧ h.IsListIter it a i) where
  mem := by simp
  obj := fun i h st b hb => by
    obtain ⟨⟨old, he⟩, o, hi, c, d⟩ := st
    simp only [List.mem_cons, List.not_mem_nil, or_false] at hb
    rcases hb with rfl | rfl
    · exact ⟨_, he, fun v z => by cases z⟩
    · exact ⟨o, hi, fun v z => by rw [d] at z; cases z⟩
  keep := fun i h h' st k => by
    obtain ⟨⟨old, he⟩, hi⟩ := st
    exact ⟨⟨old, k e (by simp) _ he⟩, hi.at fun o x => k it (by simp) o x⟩
  item := by
    intro X hP hw hK hc i pins s σ H E I hf st hg
    subst hP hw hK
    obtain ⟨xs, x, hq, hx⟩ := hg
    obtain ⟨its, rv, p, hz⟩ := I.list hq
    obtain ⟨u, hu, ru⟩ := rv.get hx
    obtain ⟨⟨old, he⟩, hit⟩ := st
    have helt : e < s.heap.objs.size := Heap.lt_size he
    have hilt : it < s.heap.objs.size := by obtain ⟨_, y, _⟩ := hit; exact Heap.lt_size y
    have hfe := hf e (by simp)
    have hfi := hf it (by simp)
    refine wpAny_pyNext_enum_item he hit p.isList (x := u) (by simpa using hu) hei fun h1 ho hit1 hT hsz hk => ?_
    refine ⟨_, rfl, ?_⟩
    refine wpAny_letOwnedTupleGo_enum (s := { s with heap := h1, toks := s.toks + 1 }) ho fun h2 he2 hs2 => ?_
    have hfr : H s.heap.objs.size = none := I.hok.fresh (Nat.le_refl _)
    have I1 : Inv X pins σ (upd H s.heap.objs.size (.tup [.int i, x])) { s with heap := s.heap.push { cls := .type "tuple", data := .seq #[.int i s.toks, u] }, toks := s.toks + 1 } :=
      I.laid (t' := s.toks + 1) (o := .tup [.int i, x]) (fun b o q => Heap.get?_push_of_some _ q) (Nat.le_refl _) ⟨(show 2 ≤ sizeLine by decide), [.int i s.toks, u], .cons ⟨s.toks, rfl⟩ (.cons ru .nil), IsTup.new _ _⟩
    have hT2 : h2.get? s.heap.objs.size = some { cls := .type "tuple", data := .seq #[.int i s.toks, u] } := (hs2.2 _ (Nat.ne_of_gt helt)).trans hT
    have I2 : Inv X pins σ (upd H s.heap.objs.size (.tup [.int i, x])) { s with heap := h2, toks := s.toks + 1 } := by
      refine L2.Inv.turnedL (s := { s with heap := s.heap.push { cls := .type "tuple", data := .seq #[.int i s.toks, u] }, toks := s.toks + 1 }) (its := [e, it]) (t' := s.toks + 1) (h' := h2) I1 (fun b o hb q => ?_) (fun b hb => ?_)
      · simp only [List.mem_cons, List.not_mem_nil, or_false, not_or] at hb
        rcases Nat.lt_or_ge b s.heap.objs.size with hlt | hge
        · have q' : s.heap.get? b = some o := by
            rw [Heap.get?_push_ne _ _ _ (Nat.ne_of_lt hlt)] at q; exact q
          exact (hs2.2 b hb.1).trans (hk b o hb.1 hb.2 q')
        · have hlt2 := Heap.lt_size q
          rw [Heap.size_push] at hlt2
          have hbe : b = s.heap.objs.size := Nat.le_antisymm (Nat.le_of_lt_succ hlt2) hge
          subst hbe
          rw [Heap.get?_push_size _ rfl] at q
          cases q
          exact hT2
      · simp only [List.mem_cons, List.not_mem_nil, or_false] at hb
        rcases hb with rfl | rfl
        · exact fpOk_upd hfe (Nat.ne_of_lt helt)
        · exact fpOk_upd hfi (Nat.ne_of_lt hilt)
    refine ⟨.ref s.heap.objs.size, _, I2, rfl, ⟨x, _, fun ys hy => by rw [I.list_inj hy hq]; exact hx, rfl, hfr, rfl⟩, ⟨⟨u, by simpa using he2⟩, hit1.at fun o y => (hs2.2 it (Ne.symm hei)).trans y⟩, fun b hb => ?_⟩
    simp only [List.mem_cons, List.not_mem_nil, or_false] at hb
    rcases hb with rfl | rfl
    · rw [upd_ne (Nat.ne_of_lt helt)]; exact hfe.1
    · rw [upd_ne (Nat.ne_of_lt hilt)]; exact hfi.1
  done := by
    intro X hP hw hK hc i pins s σ H E I hf st hg
    subst hP hw hK
    obtain ⟨xs, hq, hx⟩ := hg
    obtain ⟨its, rv, p, hz⟩ := I.list hq
    obtain ⟨⟨old, he⟩, hit⟩ := st
    have hl := rv.length
    refine wpAny_pyNext_enum_end (I.ok.hd hc) he hit p.isList (by simp; lia) fun h' eb => ⟨rfl, ?_⟩
    exact I.turnedL (its := [e, it]) (t' := s.toks) (fun b o hb q => eb b o (fun z => hb (by simp [z])) q) hf
  self := fun _ _ _ _ _ st h => by
    obtain ⟨⟨old, he⟩, _⟩ := st
    exact wpAny_pyIter_enum he h
section
variable {X : Cx}
noncomputable def iEnum (ta : TA) (K : PySem.W.Frag) : TI := fun σ H R => ta σ H fun vs H1 => ∃ a xs, vs = [.ref a] ∧ H1 a = some (.lst xs) ∧ R (Ite K a) H1
theorem bt_enumerate' : bootBuiltins "enumerate" = some (.type "enumerate") := by decide +kernel
theorem pi_enum {elts : List Expr} {kk : Nat} {tp : Pos} {a : Expr} {ta : TA} {p pos : Pos} (hg : Gl X "enumerate") (hm : X.mg "enumerate" = none) (ha : PA X [a] ta) (hs : starEach [a] X.env = [(false, eval a X.env)]) : PI X (.Tuple elts kk tp) (.Call (.Name "enumerate" p) [a] [] pos) (iEnum ta X.K) := by
  intro pins s σ H R I h
  refine Call_ (ld_blt I hg hm bt_enumerate' (PyProof.Rows.callWith_type1 (thn (ha pos pins s σ H _ I h) fun us s1 ⟨vs, H1, I1, r1, q1⟩ => ?_) hs rfl))
  obtain ⟨l, xs, e, hl, q⟩ := q1
  subst e
  cases r1 with
  | cons r rr =>
    cases rr
    cases r
    obtain ⟨z, its, n, rv, ho⟩ := I1.hok l _ hl
    refine call_enumerate_1 ho fun h' he hi hsz hk => ?_
    refine wpAny_pyIter_enum he ?_
    have I2 : Inv X pins σ H1 { s1 with heap := h' } := I1.kept (t' := s1.toks) hk
    refine ⟨s1.heap.objs.size + 1, [s1.heap.objs.size + 1, s1.heap.objs.size], _, _, H1, rfl, I2, turn_enum l _ _ (Nat.succ_ne_self _), ⟨⟨_, he⟩, hi⟩, fun b hb => ?_, q⟩
    simp only [List.mem_cons, List.not_mem_nil, or_false] at hb
    rcases hb with rfl | rfl
    · exact I1.fpOk (Nat.le_succ _) (I1.hok.fresh (Nat.le_succ _))
    · exact I1.fpOk (Nat.le_refl _) (I1.hok.fresh (Nat.le_refl _))
theorem ienum {elts : List Expr} {kk : Nat} {tp : Pos} {a : Expr} {ta : TA} {p pos : Pos} (K : PySem.W.Frag) (hg : Gl X "enumerate") (hm : X.mg "enumerate" = none) (ha : QA X [a] ta) (h : notStar a = true := by rfl) (hK : X.K = K := by rfl) : QI X (.Tuple elts kk tp) (.Call (.Name "enumerate" p) [a] [] pos) (iEnum ta K) := by
  subst hK
  exact .mk (pi_enum hg hm ha.un (by rw [star_cons h, star_nil]))
theorem for_enum {K : PySem.W.Frag} {a : Addr} {xs : List V} {g : TG} {tb : TS} {D : Ends} {σ : L2.St} {H : Hp} (Pv : Nat → L2.St → Hp → Prop) (h0 : Pv 0 σ H) (hl : ∀ i σ H, i ≤ xs.length → Pv i σ H → H a = some (.lst xs))
    (hs : ∀ i x σ H T, xs[i]? = some x → Pv i σ H → H T = none → g (.ref T) σ (upd H T (.tup [.int i, x])) fun σ2 H2 => tb { D with nx := Pv (i + 1), ct := Pv (i + 1), bk := D.nx } σ2 H2) (hd : ∀ σ H, Pv xs.length σ H → D.nx σ H) :
    ∃ W : Nat → Nat → L2.St → Hp → Prop, (∃ m, W 0 m σ H) ∧ ∀ i m σ H, W i m σ H →
      ((Ite K a).stop i H ∧ D.nx σ H) ∨ ((Ite K a).go i H ∧ ∃ N : L2.St → Hp → Prop, (∀ σ' H', N σ' H' → ∃ m', m' < m ∧ W (i + 1) m' σ' H') ∧ ∀ x H', (Ite K a).yld i H x H' → g x σ H' fun σ2 H2 => tb { D with nx := N, ct := N, bk := D.nx } σ2 H2) := by
  refine ⟨fun i m σ H => m = xs.length - i ∧ i ≤ xs.length ∧ Pv i σ H, ⟨xs.length, by simp, Nat.zero_le _, h0⟩, ?_⟩
  rintro i m σ H ⟨rfl, hi, p⟩
  have q := hl i σ H hi p
  by_cases hlt : i < xs.length
  · refine .inr ⟨⟨xs, xs[i], SqL.of q, by simp [hlt]⟩, Pv (i + 1), fun σ' H' p' => ⟨xs.length - (i + 1), by lia, rfl, hlt, p'⟩, fun x H' y => ?_⟩
    obtain ⟨y, T, hy, rfl, hT, rfl⟩ := y
    exact hs i y σ H T (hy xs (SqL.of q)) p hT
  · have e : i = xs.length := by lia
    subst e
    exact .inl ⟨⟨xs, SqL.of q, Nat.le_refl _⟩, hd σ H p⟩
end
end L3
namespace L3
open PySem PySem.Spec PyProof.Rows L2
section
variable {X : Cx}
variable {o e f : Expr} {apos cpos : Pos} {td ty tx : TE} {k : Nat} {A : Around}
theorem qdp1 (ho : QE X o td) (he : QE X e ty) (m : M1 X o "pop" apos e cpos := by constructor <;> rfl) : QE X (.Call (.Attribute o "pop" apos) [e] [] cpos) (tDPop1 td ty) := .mk (pe_dpop1 ho.un he.un m)
end
end L3
namespace L3
open PySem PySem.Spec PyProof.Rows L2
noncomputable def epOf (o : Obj) : Nat := match o.data with
  | .dict _ ep => ep
  | _ => 0
noncomputable def Itd (ob : Obj) (a : Addr) (kvs : List (Key × V)) : It :=
  ⟨fun i H => H a = some (.frz ob (.dK kvs)) ∧ i < kvs.length, fun i H v H' => H' = H ∧ ∃ k x, kvs[i]? = some (k, x) ∧ v = kV k, fun i H => H a = some (.frz ob (.dK kvs)) ∧ kvs.length ≤ i⟩
theorem is_rel {P : Program} {w : World} {k : Key} {u : Value} (h : (mixKind P w).is k u = true) : RelV (kV k) u := by
  rcases keyIs_shape (show keyIs k u = true from h) with ⟨i, t, rfl, rfl⟩ | ⟨x, t, rfl, rfl⟩
  · exact ⟨t, rfl⟩
  · exact ⟨t, rfl⟩
theorem frz_at {P : Program} {w : World} {H : Hp} {h : Heap} {a : Addr} {ob : Obj} {kvs : List (Key × V)} (ok : HOk P w H h) (e : H a = some (.frz ob (.dK kvs))) : ∃ vs, KV kvs vs ∧ (a == sysModules) = false ∧ h.DictAt (mixKind P w) a vs (epOf ob) := by
  obtain ⟨hg, z, hs, vs, rel, o, es, ep, ho, hc, hd, r⟩ := (show ObjOk P w H h a (.frz ob (.dK kvs)) from ok a _ e)
  rw [hg] at ho
  cases ho
  refine ⟨vs, rel, hs, ob, es, hg, hc, ?_, r⟩
  unfold epOf
  rw [hd]
theorem turn_dict {P : Program} {w : World} {K : PySem.W.Frag} {tg : Expr} (ob : Obj) (a it : Addr) (kvs : List (Key × V)) (hne : a ≠ it) : Turn P w K tg (Itd ob a kvs) [it] it (fun i h => h.IsKeyIter it a i kvs.length (epOf ob)) where
  mem := by simp
  obj := fun i h st b hb => by
    have e : b = it := by simpa using hb
    subst e
    obtain ⟨o, e, c, d⟩ := st
    exact ⟨o, e, fun v z => by rw [d] at z; cases z⟩
  keep := fun i h h' st k => st.at fun o e => k it (by simp) o e
  item := by
    intro X hP hw hK hc i pins s σ H E I hf st hg
    subst hP hw hK
    obtain ⟨e, hi⟩ := hg
    obtain ⟨vs, rel, hs, hd⟩ := frz_at I.hok e
    have hlen := rel.length
    obtain ⟨f0, f1, f2, f3, f4, f5⟩ := hf it (by simp)
    obtain ⟨⟨k, y⟩, hk⟩ : ∃ p, vs[i]? = some p := ⟨vs[i]'(by lia), List.getElem?_eq_getElem (by lia)⟩
    have hkk : ∃ x, kvs[i]? = some (k, x) := by
      have h1 : kvs[i]? = some kvs[i] := List.getElem?_eq_getElem hi
      have h2 := congrArg (fun l => l[i]?) (KV.keys rel)
      simp only [List.getElem?_map, h1, hk, Option.map_some, Option.some.injEq] at h2
      exact ⟨kvs[i].2, by rw [h1, ← h2]⟩
    obtain ⟨x, hx⟩ := hkk
    have st' : s.heap.IsKeyIter it a i vs.length (epOf ob) := by rw [← hlen]; exact st
    refine wpAny_pyNext_dict_item st' hd hk fun key h' hkey hit' sb => ?_
    have I1 : Inv X pins σ H { s with heap := h' } := I.turned (t' := s.toks) (fun b o hb e => (sb.2 b hb).trans e) f0 f1 f3 f4 f5
    rw [← hlen] at hit'
    obtain ⟨o, e', c, d⟩ := id hit'
    exact ⟨key, rfl, go_of (s := { s with heap := h' }) e' c d (by decide) ⟨kV k, H, I1, is_rel hkey, ⟨rfl, k, x, hx, rfl⟩, hit', fun b hb => (hf b hb).1⟩⟩
  done := by
    intro X hP hw hK hc i pins s σ H E I hf st hg
    subst hP hw hK
    obtain ⟨e, hi⟩ := hg
    obtain ⟨vs, rel, hs, hd⟩ := frz_at I.hok e
    have hlen := rel.length
    obtain ⟨f0, f1, f2, f3, f4, f5⟩ := hf it (by simp)
    have st' : s.heap.IsKeyIter it a i vs.length (epOf ob) := by rw [← hlen]; exact st
    exact wpAny_pyNext_dict_end (I.ok.hd hc) st' hd (List.getElem?_eq_none (by lia)) fun h' eb => ⟨rfl, I.turned (t' := s.toks) (fun b o hb e => eb b o hb e) f0 f1 f3 f4 f5⟩
  self := fun _ _ _ _ _ st h => wpAny_pyIter_keyiter st h
section
variable {X : Cx} {tg : Expr}
noncomputable def iDict (tl : TE) : TI := fun σ H R => tl σ H fun x H1 => ∃ a kvs, x = .ref a ∧ Rd H1 a (.dK kvs) ∧ ∀ ob H4, H4 a = some (.frz ob (.dK kvs)) → Same (rm a H1) H4 → R (Itd ob a kvs) H4
theorem pi_dict {l : Expr} {tl : TE} (hl : PE X l tl) : PI X tg l (iDict tl) := by
  intro pins s σ H R I h
  refine thn (hl pins s σ H _ I h) fun v s1 hh => ?_
  obtain ⟨x, H1, I1, r1, q1⟩ := hh
  obtain ⟨a, kvs, e, hrd, q⟩ := q1
  subst e
  cases r1
  have key : ∀ (H2 : Hp) (ob : Obj), Inv X pins σ H2 s1 → H2 a = some (.frz ob (.dK kvs)) → R (Itd ob a kvs) H2 → wpAny (model X.prog X.w) X.A (pyIter (.ref a)) (PIE X pins σ tg R) X.xe s1 := fun H2 ob I2 e q => by
    obtain ⟨vs, rel, hs, hd⟩ := frz_at I2.hok e
    have hlen := rel.length
    refine wpAny_pyIter_dict hs hd ?_
    refine ⟨s1.heap.objs.size, [s1.heap.objs.size], _, _, H2, rfl, I2.kept (t' := s1.toks) fun b o e => Heap.get?_push_of_some _ e, turn_dict ob a _ kvs (Nat.ne_of_lt hd.lt_size), ⟨_, Heap.get?_push_size _ rfl, rfl, by rw [hlen]; rfl⟩, fun b hb => ?_, q⟩
    have e : b = s1.heap.objs.size := by simpa using hb
    subst e
    exact I2.fpOk (Nat.le_refl _) (I2.hok.fresh (Nat.le_refl _))
  rcases hrd with e | ⟨ob, e⟩
  · obtain ⟨z, hs, vs, rel, o, es, ep, ho, r⟩ := (show ObjOk X.prog X.w H1 s1.heap a (.dK kvs) from I1.hok a _ e)
    have I2 : Inv X pins σ (upd H1 a (.frz o (.dK kvs))) { s1 with heap := s1.heap, toks := s1.toks } := I1.write (t' := s1.toks) (by rw [e]; exact True.intro) (.inl rfl) (fun b u _ q => q) ⟨o, ho⟩ ⟨ho, z, hs, vs, rel, o, es, ep, ho, r⟩
    exact key _ o I2 upd_same (q o _ upd_same (same_upd rm_same rm_self))
  · exact key _ ob I1 e (q ob _ e rm_same)
theorem idict {l : Expr} {tl : TE} (hl : QE X l tl) : QI X tg l (iDict tl) := .mk (pi_dict hl.un)
variable {g : TG} {tt : TT} {te : TE} {acc : Addr} {σ0 : L2.St} {H0 : Hp} {Q : Hp → Prop}
theorem comp_dict {ob : Obj} {a : Addr} {kvs : List (Key × V)} (Pv : Nat → List V → L2.St → Hp → Prop) (h0 : Pv 0 [] σ0 H0) (hl : ∀ i ys σ H, Pv i ys σ H → H a = some (.frz ob (.dK kvs)))
    (hs : ∀ i ys k x σ H, kvs[i]? = some (k, x) → i < kvs.length → Pv i ys σ H → g (kV k) σ H fun σ2 H2 => tt σ2 H2 fun b H3 => if b = true then te σ2 H3 (CPost Pv acc kvs.length i σ2) else CSkip Pv kvs.length i σ2 H3)
    (hd : ∀ ys σ H, Pv kvs.length ys σ H → Q H) : CompW (Itd ob a kvs) g tt te acc σ0 H0 Q := by
  refine ⟨fun i m σ H => m = kvs.length - i ∧ i ≤ kvs.length ∧ ∃ ys, Pv i ys σ H, ⟨kvs.length, by simp, Nat.zero_le _, [], h0⟩, ?_⟩
  rintro i m σ H ⟨rfl, hi, ys, p⟩
  have q := hl i ys σ H p
  by_cases hlt : i < kvs.length
  · refine .inr ⟨⟨q, hlt⟩, fun x H1 y => ?_⟩
    obtain ⟨e, k, x', hk, rfl⟩ := y
    subst e
    have z := hs i ys k x' σ _ hk hlt p
    unfold CPost CSkip at z
    exact z
  · have e : i = kvs.length := by lia
    subst e
    exact .inl ⟨⟨q, Nat.le_refl _⟩, hd ys σ H p⟩
theorem for_dict {ob : Obj} {a : Addr} {kvs : List (Key × V)} {tb : TS} {D : Ends} {σ : L2.St} {H : Hp} (Pv : Nat → L2.St → Hp → Prop) (h0 : Pv 0 σ H) (hl : ∀ i σ H, i ≤ kvs.length → Pv i σ H → H a = some (.frz ob (.dK kvs)))
    (hs : ∀ i k x σ H, kvs[i]? = some (k, x) → Pv i σ H → g (kV k) σ H fun σ2 H2 => tb { D with nx := Pv (i + 1), ct := Pv (i + 1), bk := D.nx } σ2 H2) (hd : ∀ σ H, Pv kvs.length σ H → D.nx σ H) :
    ∃ W : Nat → Nat → L2.St → Hp → Prop, (∃ m, W 0 m σ H) ∧ ∀ i m σ H, W i m σ H →
      ((Itd ob a kvs).stop i H ∧ D.nx σ H) ∨ ((Itd ob a kvs).go i H ∧ ∃ N : L2.St → Hp → Prop, (∀ σ' H', N σ' H' → ∃ m', m' < m ∧ W (i + 1) m' σ' H') ∧ ∀ x H', (Itd ob a kvs).yld i H x H' → g x σ H' fun σ2 H2 => tb { D with nx := N, ct := N, bk := D.nx } σ2 H2) := by
  refine ⟨fun i m σ H => m = kvs.length - i ∧ i ≤ kvs.length ∧ Pv i σ H, ⟨kvs.length, by simp, Nat.zero_le _, h0⟩, ?_⟩
  rintro i m σ H ⟨rfl, hi, p⟩
  have q := hl i σ H hi p
  by_cases hlt : i < kvs.length
  · refine .inr ⟨⟨q, hlt⟩, Pv (i + 1), fun σ' H' p' => ⟨kvs.length - (i + 1), by lia, rfl, hlt, p'⟩, fun x H' y => ?_⟩
    obtain ⟨e, k, x', hk, rfl⟩ := y
    subst e
    exact hs i k x' σ _ hk p
  · have e : i = kvs.length := by lia
    subst e
    exact .inl ⟨⟨q, Nat.le_refl _⟩, hd σ H p⟩
end
end L3
namespace L3
open PySem PySem.Spec PyProof.Rows L2
section
variable {X : Cx}
theorem mPopAt : RMt X "list.pop" rPopAt := .mk mt_popAt
noncomputable def rMin2 : List V → Hp → VK → Prop := fun xs H Q => ∃ i j, xs = [.int i, .int j] ∧ Q (.int (if j < i then j else i)) H
theorem fMin2 (hc : X.calm = true := by rfl) : RCall X (.builtin "min") rMin2 := .mk (call_min2 hc)
noncomputable def rRepN : R2 := fun x y H Q => ∃ l k xs, x = .ref l ∧ y = .int k ∧ H l = some (.lst xs) ∧ 0 ≤ k ∧ k < 2 ^ 63 ∧ xs.length * k.toNat ≤ sizeLine ∧ New H (.lst (List.replicate k.toNat xs).flatten) Q
theorem op_repN : OpR X (binaryOp .Mult) rRepN := by
  intro pins s σ H x y v u Q I rx ry h
  obtain ⟨l, k, xs, rfl, rfl, hH, h1, h2, hz, q⟩ := h
  exact op_rep pins s σ H _ _ v u Q I rx ry ⟨l, k, xs, rfl, rfl, hH, by lia, h2, hz, fun p hp => q.at hp⟩
theorem rMulL : ROp X (binaryOp .Mult) rRepN := .mk op_repN
end
noncomputable def Itv (K : PySem.W.Frag) (a : Addr) (n : Nat) : It :=
  ⟨fun i H => ∃ xs x, SqL K H a xs ∧ i < n ∧ xs[n - 1 - i]? = some x, fun i H v H' => H' = H ∧ ∀ xs, SqL K H a xs → xs[n - 1 - i]? = some v, fun i _ => i = n⟩
theorem turn_rev {P : Program} {w : World} {K : PySem.W.Frag} {tg : Expr} (a it : Addr) (n : Nat) : Turn P w K tg (Itv K a n) [it] it (fun i h => h.IsRevIter it a ((n : Int) - 1 - i)) where
  mem := by simp
  obj := fun i h st b hb => by
    obtain rfl : b = it := by simpa using hb
    obtain ⟨o, e, c, d⟩ := st
    exact ⟨o, e, fun v z => by rw [d] at z; cases z⟩
  keep := fun i h h' st k => st.at fun o e => k it (by simp) o e
  item := by
    intro X hP hw hK hc i pins s σ H E I hf st hg
    subst hP hw hK
    obtain ⟨xs, x, hq, hi, hx⟩ := hg
    obtain ⟨its, rv, p, hz⟩ := I.list hq
    obtain ⟨u, hu, ru⟩ := rv.get hx
    obtain ⟨f0, f1, f2, f3, f4, f5⟩ := hf it (by simp)
    have e1 : (n : Int) - 1 - i = ((n - 1 - i : Nat) : Int) := by lia
    have st1 : s.heap.IsRevIter it a ((n - 1 - i : Nat) : Int) := e1 ▸ st
    refine wpAny_pyNext_rev_item st1 p.isList (x := u) (by simpa using hu) fun h' st' sb => ?_
    have I1 : Inv X pins σ H { s with heap := h' } := I.turned (t' := s.toks) (fun b o hb e => (sb.2 b hb).trans e) f0 f1 f3 f4 f5
    have e2 : ((n - 1 - i : Nat) : Int) - 1 = (n : Int) - 1 - ((i + 1 : Nat) : Int) := by lia
    rw [e2] at st'
    obtain ⟨o, e, c, d⟩ := id st'
    exact ⟨u, rfl, go_of (s := { s with heap := h' }) e c d (by decide) ⟨x, H, I1, ru, ⟨rfl, fun ys hy => by rw [I.list_inj hy hq]; exact hx⟩, st', fun b hb => (hf b hb).1⟩⟩
  done := by
    intro X hP hw hK hc i pins s σ H E I hf st hg
    subst hP hw hK
    obtain rfl : i = n := hg
    obtain ⟨f0, f1, f2, f3, f4, f5⟩ := hf it (by simp)
    have e1 : (i : Int) - 1 - i = -1 := by lia
    have st1 : s.heap.IsRevIter it a (-1) := e1 ▸ st
    exact wpAny_pyNext_rev_end (I.ok.hd hc) st1 fun h' eb => ⟨rfl, I.turned (t' := s.toks) (fun b o hb e => eb b o hb e) f0 f1 f3 f4 f5⟩
  self := fun _ _ _ _ _ st h => wpAny_pyIter_revIter st h
section
variable {X : Cx}
noncomputable def iRev (ta : TA) (K : PySem.W.Frag) : TI := fun σ H R => ta σ H fun vs H1 => ∃ a xs, vs = [.ref a] ∧ SqL K H1 a xs ∧ R (Itv K a xs.length) H1
theorem bt_reversed' : bootBuiltins "reversed" = some (.type "reversed") := by decide +kernel
theorem pi_rev {tg a : Expr} {ta : TA} {p pos : Pos} (hg : Gl X "reversed") (hm : X.mg "reversed" = none) (ha : PA X [a] ta) (hs : starEach [a] X.env = [(false, eval a X.env)]) : PI X tg (.Call (.Name "reversed" p) [a] [] pos) (iRev ta X.K) := by
  intro pins s σ H R I h
  refine Call_ (ld_blt I hg hm bt_reversed' (PyProof.Rows.callWith_type1 (thn (ha pos pins s σ H _ I h) fun us s1 ⟨vs, H1, I1, r1, q1⟩ => ?_) hs rfl))
  obtain ⟨l, xs, e, hl, q⟩ := q1
  subst e
  cases r1 with
  | cons r rr =>
    cases rr
    cases r
    obtain ⟨its, rv, pl, hz⟩ := I1.list hl
    refine call_reversed_list pl.isList ?_
    have I2 : Inv X pins σ H1 { s1 with heap := s1.heap.push (revObj l ((its.toArray.size : Int) - 1)) } := I1.kept (t' := s1.toks) fun b o e => Heap.get?_push_of_some _ e
    have hlen := rv.length
    have st : (s1.heap.push (revObj l ((its.toArray.size : Int) - 1))).IsRevIter s1.heap.objs.size l ((xs.length : Int) - 1 - ((0 : Nat) : Int)) := by
      have e : ((its.toArray.size : Nat) : Int) - 1 = (xs.length : Int) - 1 - ((0 : Nat) : Int) := by rw [List.size_toArray, ← hlen]; simp
      rw [← e]
      exact ⟨_, Heap.get?_push_size _ rfl, rfl, rfl⟩
    refine wpAny_pyIter_revIter (i := (xs.length : Int) - 1 - ((0 : Nat) : Int)) st ?_
    refine ⟨s1.heap.objs.size, [s1.heap.objs.size], _, _, H1, rfl, I2, turn_rev l _ xs.length, st, fun b hb => ?_, q⟩
    obtain rfl : b = s1.heap.objs.size := by simpa using hb
    exact I1.fpOk (Nat.le_refl _) (I1.hok.fresh (Nat.le_refl _))
theorem irev {tg a : Expr} {ta : TA} {p pos : Pos} (K : PySem.W.Frag) (hg : Gl X "reversed") (hm : X.mg "reversed" = none) (ha : QA X [a] ta) (h : notStar a = true := by rfl) (hK : X.K = K := by rfl) : QI X tg (.Call (.Name "reversed" p) [a] [] pos) (iRev ta K) := by
  subst hK
  exact .mk (pi_rev hg hm ha.un (by rw [star_cons h, star_nil]))
theorem for_rev {K : PySem.W.Frag} {a : Addr} {xs : List V} {g : TG} {tb : TS} {D : Ends} {σ : L2.St} {H : Hp} (Pv : Nat → L2.St → Hp → Prop) (h0 : Pv 0 σ H) (hl : ∀ i σ H, i ≤ xs.length → Pv i σ H → SqL K H a xs)
    (hs : ∀ i x σ H, i < xs.length → xs[xs.length - 1 - i]? = some x → Pv i σ H → g x σ H fun σ2 H2 => tb { D with nx := Pv (i + 1), ct := Pv (i + 1), bk := D.nx } σ2 H2) (hd : ∀ σ H, Pv xs.length σ H → D.nx σ H) :
    ∃ W : Nat → Nat → L2.St → Hp → Prop, (∃ m, W 0 m σ H) ∧ ∀ i m σ H, W i m σ H →
      ((Itv K a xs.length).stop i H ∧ D.nx σ H) ∨ ((Itv K a xs.length).go i H ∧ ∃ N : L2.St → Hp → Prop, (∀ σ' H', N σ' H' → ∃ m', m' < m ∧ W (i + 1) m' σ' H') ∧ ∀ x H', (Itv K a xs.length).yld i H x H' → g x σ H' fun σ2 H2 => tb { D with nx := N, ct := N, bk := D.nx } σ2 H2) := by
  refine ⟨fun i m σ H => m = xs.length - i ∧ i ≤ xs.length ∧ Pv i σ H, ⟨xs.length, by simp, Nat.zero_le _, h0⟩, ?_⟩
  rintro i m σ H ⟨rfl, hi, p⟩
  have q := hl i σ H hi p
  by_cases hlt : i < xs.length
  · have hx : xs[xs.length - 1 - i]? = some (xs[xs.length - 1 - i]'(by lia)) := List.getElem?_eq_getElem (by lia)
    refine .inr ⟨⟨xs, _, q, hlt, hx⟩, Pv (i + 1), fun σ' H' p' => ⟨xs.length - (i + 1), by lia, rfl, hlt, p'⟩, fun x H' y => ?_⟩
    obtain ⟨rfl, hy⟩ := y
    exact hs i x σ H' hlt (hy xs q) p
  · obtain rfl : i = xs.length := by lia
    exact .inl ⟨rfl, hd σ H p⟩
end
end L3
namespace L3
open PySem PySem.Spec PyProof.Rows L2
section
variable {X : Cx} {pins : List (Addr × Obj)} {σ : L2.St} {H : Hp} {s : Shared} {a : Addr} {y d : V} {u r : Value} {o : Option V} {A : Around} {E : Value → Shared → Prop}
end
section
variable {X : Cx} {o e f : Expr} {apos cpos : Pos} {td ty tx : TE}
variable {k : Nat} {A : Around}
end
@[irreducible] noncomputable def QP (X : Cx) (pos : Pos) (ks : List (Option Expr)) (vs : List Expr) (trs : List (TE × TE)) : Prop := PPs X pos ks vs trs
section
variable {X : Cx} {pos : Pos} {kx vx : Expr} {ks : List (Option Expr)} {vs : List Expr} {tk tv : TE} {trs : List (TE × TE)}
theorem QP.un (h : QP X pos ks vs trs) : PPs X pos ks vs trs := by unfold QP at h; exact h
theorem pnil : QP X pos [] [] [] := by unfold QP; exact pps_nil
theorem pcons (hk : QE X kx tk) (hv : QE X vx tv) (hr : QP X pos ks vs trs) : QP X pos (some kx :: ks) (vx :: vs) ((tk, tv) :: trs) := by unfold QP; exact pps_cons hk.un hv.un hr.un
theorem qdisp (h : QP X pos ks vs trs) (hall : ks.all (·.isSome) = true := by rfl) (hl : ks.length = vs.length := by rfl) (h0 : ks ≠ [] := by exact List.cons_ne_nil _ _) (h15 : ks.length ≤ 15 := by decide) : QE X (.Dict ks vs pos) (tDisp trs) := .mk (pe_disp h.un hall hl h0 h15)
end
end L3
namespace L3
open PySem PySem.Spec PyProof.Rows L2
section
variable {X : Cx}
variable {a b : Expr} {ta tb : TE} {pos : Pos} {k : Nat} {A : Around}
theorem tdin (hr : Room k A) (ha : QE X a ta) (hb : QE X b tb) (hm : behindInMarks .In b = false := by with_unfolding_all rfl) (hA : X.A = A := by rfl) : QT X (.Compare a [.In] [b] pos) (tB (tDIn ta tb)) := .mk (pt_cmp (pc_din (by rw [hA]; exact hu_of hr) ha.un hb.un) hm)
theorem tdnotin (hr : Room k A) (ha : QE X a ta) (hb : QE X b tb) (hm : behindInMarks .NotIn b = false := by with_unfolding_all rfl) (hA : X.A = A := by rfl) : QT X (.Compare a [.NotIn] [b] pos) (tB (tDNotIn ta tb)) := .mk (pt_cmp (pc_dnotin (by rw [hA]; exact hu_of hr) ha.un hb.un) hm)
end
end L3
namespace L3
open PySem PySem.Spec PyProof.Rows L2
theorem vals_of : ∀ {xs : List V} {us : List Value}, xs.length = us.length → (∀ (j : Nat) x u, xs[j]? = some x → us[j]? = some u → RelV x u) → Vals xs us
  | [], [], _, _ => .nil
  | x :: xs, u :: us, h, f => .cons (f 0 x u rfl rfl) (vals_of (by simpa using h) fun j y v h1 h2 => f (j + 1) y v (by simpa using h1) (by simpa using h2))
  | [], _ :: _, h, _ => by simp at h
  | _ :: _, [], h, _ => by simp at h
theorem keyRel {k : Key} {v : Value} (h : keyIs k v = true) : RelV (kV k) v := by
  rcases keyIs_shape h with ⟨i, t, rfl, rfl⟩ | ⟨x, t, rfl, rfl⟩
  · exact ⟨t, rfl⟩
  · exact ⟨t, rfl⟩
noncomputable def rListD : List V → Hp → VK → Prop := fun xs H Q => ∃ d kvs, xs = [.ref d] ∧ Rd H d (.dK kvs) ∧ New H (.lst (kvs.map fun kv => kV kv.1)) Q
section
variable {X : Cx}
theorem call_listD (hc : X.calm = true) : CallR X (.type "list") rListD := by
  intro pins s σ H xs us Q I rv h
  obtain ⟨d, kvs, rfl, e, q⟩ := h
  obtain ⟨u, rfl, ru⟩ := vals1 rv
  cases ru
  obtain ⟨z, hd, vs, rel, o, es, ep, h1, h2, h3, h4, h5, h6⟩ := dk_rd I.hok e
  have hlen : kvs.length = vs.length := Paired.length rel
  refine PySem.W.kdl_call (PySem.W.kdl_dict (knd := mixKind X.prog X.w) (kvs := vs) (ep := ep) hd) (I.ok.hd hc) ⟨o, es, h1, h2, h3, h4, h5, h6⟩ (by lia) fun h' tk acc c hk hS hacc => ?_
  refine ⟨.ref s.heap.objs.size, upd H s.heap.objs.size (.lst (kvs.map fun kv => kV kv.1)), I.laid (t' := tk) hk (Nat.le_refl _) ?_, rfl, q.at I.fresh⟩
  have h9 : acc.toList.length = vs.length := by simpa using hacc.1
  refine ⟨by rw [List.length_map]; exact z, acc.toList, c, vals_of (by rw [List.length_map]; lia) fun j x v e1 e2 => ?_, ?_⟩
  · rw [List.getElem?_map] at e1
    obtain ⟨kv, hkv, rfl⟩ := Option.map_eq_some_iff.mp e1
    rw [Array.getElem?_toList] at e2
    obtain ⟨k, y, h7, h8⟩ := hacc.2 j v e2
    have hke : kv.1 = k := by
      have : ∀ {kvs : List (Key × V)} {vs : List (Key × Value)}, KV kvs vs → ∀ (j : Nat) kv k y, kvs[j]? = some kv → vs[j]? = some (k, y) → kv.1 = k := by
        intro kvs vs r
        unfold KV at r
        induction r with
        | nil => intro j kv k y e; simp at e
        | @cons p q ps qs h t ih =>
          intro j kv k y e1 e2
          cases j with
          | zero => simp at e1 e2; subst e1; rw [h.1, e2]
          | succ j => exact ih j kv k y (by simpa using e1) (by simpa using e2)
      exact this rel j kv k y hkv h7
    subst hke
    exact keyRel h8
  · rw [Array.toArray_toList]; exact hS
theorem fListD (hc : X.calm = true := by rfl) : RCall X (.type "list") rListD := .mk (call_listD hc)
end
end L3
namespace L3
open PySem PySem.Spec PyProof.Rows L2
section
variable {X : Cx}
noncomputable def rLenD : List V → Hp → VK → Prop := fun xs H Q => ∃ d kvs, xs = [.ref d] ∧ Rd H d (.dK kvs) ∧ Q (.int kvs.length) H
theorem call_lenD : CallR X (.builtin "len") rLenD := by
  intro pins s σ H xs us Q I rv h
  obtain ⟨d, kvs, rfl, e, q⟩ := h
  obtain ⟨u, rfl, ru⟩ := vals1 rv
  cases ru
  obtain ⟨z, hd, vs, rel, o, es, ep, h1, h2, h3, h4, h5, h6⟩ := dk_rd I.hok e
  have hlen : kvs.length = vs.length := Paired.length rel
  refine call_len_dict (knd := mixKind X.prog X.w) (kvs := vs) hd ⟨o, es, ep, h1, h2, h3, h4, h5, h6⟩ ?_ ?_
  · rw [← hlen]; exact Int.lt_of_le_of_lt (Int.ofNat_le.mpr z) (by decide)
  · refine ⟨.int kvs.length, H, I.kept (t' := s.toks + 1 + 1) (fun _ _ e => e), ⟨s.toks + 1, ?_⟩, q⟩
    rw [hlen]
theorem fLenD : RCall X (.builtin "len") rLenD := .mk call_lenD
end
end L3
namespace L3
open PySem PySem.Spec PyProof.Rows L2
section
variable {X : Cx}
end
section
variable {prog : Program} {w : World} {A : Around} {E : Value → Shared → Prop} {s : Shared}
end
end L3
namespace L3
open PySem PySem.Spec PyProof.Rows L2
section
variable {prog : Program} {w : World} {A : Around} {E : Value → Shared → Prop} {s : Shared}
end
end L3
namespace L3
open PySem PySem.Spec PyProof.Rows L2
section
variable {X : Cx}
end
end L3
namespace L3
open PySem PySem.Spec PyProof.Rows L2
section
variable {X : Cx}
end
end L3
namespace L3
open PySem PySem.Spec PyProof.Rows L2
section
variable {prog : Program} {w : World} {A : Around}
variable {R : Result → Shared → Prop} {it : Addr} {fp wr : List Addr} {n : Nat} {P : Nat → Value → Prop} {St : Nat → Heap → Prop} {kw : List (Str × Value)}
end
section
variable {X : Cx}
end
end L3
namespace HT
open PySem PyProof.Rows
section
variable {prog : Program} {w : World} {A : Around} {E : Value → Shared → Prop} {s : Shared}
end
end HT
namespace HT
open PySem PyProof.Rows
section
variable {prog : Program} {w : World} {A : Around} {E : Value → Shared → Prop} {s : Shared}
variable {R : Result → Shared → Prop} {K : Type} [DecidableEq K] {knd : KeyKind prog w K}
end
end HT
namespace L3
open PySem PySem.Spec PyProof.Rows L2
section
variable {X : Cx}
end
end L3
namespace L3
open PySem PySem.Spec PyProof.Rows L2
section
variable {X : Cx}
end
end L3
namespace L3
open PySem PySem.Spec PyProof.Rows L2
noncomputable def Itw (ob : Obj) (a : Addr) (kvs : List (Key × V)) : It :=
  ⟨fun i H => H a = some (.frz ob (.dK kvs)) ∧ i < kvs.length, fun i H v H' => H' = H ∧ ∃ k, kvs[i]? = some (k, v), fun i H => H a = some (.frz ob (.dK kvs)) ∧ kvs.length ≤ i⟩
theorem kv_at {kvs : List (Key × V)} {vs : List (Key × Value)} (r : KV kvs vs) : ∀ {i : Nat} {k : Key} {v : Value}, vs[i]? = some (k, v) → ∃ x, kvs[i]? = some (k, x) ∧ RelV x v := by
  unfold KV at r
  induction r with
  | nil => intro i k v e; simp at e
  | @cons p q ps qs h t ih =>
    intro i k v e
    cases i with
    | zero =>
      simp at e
      subst e
      obtain ⟨h1, h2⟩ := h
      exact ⟨p.2, by rw [List.getElem?_cons_zero, ← (show p.1 = k from h1)], h2⟩
    | succ i => simpa using ih (by simpa using e)
theorem turn_vals {P : Program} {w : World} {K : PySem.W.Frag} {tg : Expr} (ob : Obj) (a it : Addr) (kvs : List (Key × V)) (hne : a ≠ it) : Turn P w K tg (Itw ob a kvs) [it] it (fun i h => h.IsValIter it a i kvs.length (epOf ob)) where
  mem := by simp
  obj := fun i h st b hb => by
    have e : b = it := by simpa using hb
    subst e
    obtain ⟨o, e, c, d⟩ := st
    exact ⟨o, e, fun v z => by rw [d] at z; cases z⟩
  keep := fun i h h' st k => by
    obtain ⟨o, e, r⟩ := st
    exact ⟨o, k it (by simp) o e, r⟩
  item := by
    intro X hP hw hK hc i pins s σ H E I hf st hg
    subst hP hw hK
    obtain ⟨e, hi⟩ := hg
    obtain ⟨vs, rel, hs, hd⟩ := frz_at I.hok e
    have hlen := rel.length
    obtain ⟨f0, f1, f2, f3, f4, f5⟩ := hf it (by simp)
    obtain ⟨⟨k, y⟩, hk⟩ : ∃ p, vs[i]? = some p := ⟨vs[i]'(by lia), List.getElem?_eq_getElem (by lia)⟩
    obtain ⟨x, hx, rx⟩ := kv_at rel hk
    have st' : s.heap.IsValIter it a i vs.length (epOf ob) := by rw [← hlen]; exact st
    refine wpAny_pyNext_values_item st' hd hk fun h' hit' sb => ?_
    have I1 : Inv X pins σ H { s with heap := h' } := I.turned (t' := s.toks) (fun b o hb e => (sb.2 b hb).trans e) f0 f1 f3 f4 f5
    rw [← hlen] at hit'
    obtain ⟨o, e', c, d⟩ := id hit'
    exact ⟨y, rfl, go_of (s := { s with heap := h' }) e' c d (by decide) ⟨x, H, I1, rx, ⟨rfl, k, hx⟩, hit', fun b hb => (hf b hb).1⟩⟩
  done := by
    intro X hP hw hK hc i pins s σ H E I hf st hg
    subst hP hw hK
    obtain ⟨e, hi⟩ := hg
    obtain ⟨vs, rel, hs, hd⟩ := frz_at I.hok e
    have hlen := rel.length
    obtain ⟨f0, f1, f2, f3, f4, f5⟩ := hf it (by simp)
    have st' : s.heap.IsValIter it a i vs.length (epOf ob) := by rw [← hlen]; exact st
    exact wpAny_pyNext_values_end (I.ok.hd hc) st' hd (List.getElem?_eq_none (by lia)) fun h' eb => ⟨rfl, I.turned (t' := s.toks) (fun b o hb e => eb b o hb e) f0 f1 f3 f4 f5⟩
  self := fun _ _ _ _ _ st h => wpAny_pyIter_valiter st h
section
variable {X : Cx} {tg : Expr}
noncomputable def iVals (tl : TE) : TI := fun σ H R => tl σ H fun x H1 => ∃ a kvs, x = .ref a ∧ Rd H1 a (.dK kvs) ∧ ∀ ob H4, H4 a = some (.frz ob (.dK kvs)) → Same (rm a H1) H4 → R (Itw ob a kvs) H4
theorem pi_vals {o : Expr} {to : TE} {apos cpos : Pos} (ho : PE X o to) (hbase : attributeBase o "values" X.env (eval o X.env) = eval o X.env := by rfl) (hline : (apos.endLine == cpos.line) = true := by rfl) : PI X tg (.Call (.Attribute o "values" apos) [] [] cpos) (iVals to) := by
  intro pins s σ H R I h
  refine wpAny_Call_method0_late hbase hline (thn (ho pins s σ H _ I h) fun v s1 hh => ?_)
  obtain ⟨x, H1, I1, r1, q1⟩ := hh
  obtain ⟨a, kvs, e, hrd, q⟩ := q1
  subst e
  cases r1
  have key : ∀ (H2 : Hp) (ob : Obj), Inv X pins σ H2 s1 → H2 a = some (.frz ob (.dK kvs)) → R (Itw ob a kvs) H2 → MethodOn X.prog X.w X.A "values" cpos (.ref a) [] (fun v s1 => wpAny (model X.prog X.w) X.A (pyIter v) (PIE X pins σ tg R) X.xe s1) X.xe s1 := fun H2 ob I2 e q => by
    obtain ⟨vs, rel, hs, hd⟩ := frz_at I2.hok e
    have hlen := rel.length
    obtain ⟨o, es, ho', hc', r'⟩ := id hd
    have hD : s1.heap.DictOf (mixKind X.prog X.w) a vs := ⟨o, es, _, ho', hc', r'⟩
    refine ⟨"dict", "dict.values", PySem.F.plainAttrs_dict, PySem.F.slot_dict_values, PySem.F.type_dict_values, ⟨o, ho', hc'.1⟩, fun a' e2 => by cases e2; exact ⟨o, ho', hc'.2.1⟩, Calls.callWith_builtin rfl (PySem.evalArgs_none ?_)⟩
    refine call_meetsIn PySem.F.slot_dict_values hD.typeIs PySem.F.entry_dict_values (PySem.F.args_dict_values_1 _) (meets_dict_values (mixKind X.prog X.w) a hs) ⟨⟨vs, hD⟩, ?_⟩
    have I3 : Inv X pins σ H2 { s1 with heap := s1.heap.push { cls := .type "dict_values", data := .fields #[.ref a] } } := I2.kept (t' := s1.toks) fun b o e => Heap.get?_push_of_some _ e
    obtain ⟨vs3, rel3, _, hd3⟩ := frz_at I3.hok e
    have hlen3 := rel3.length
    refine wpAny_pyIter_values (d := a) ⟨_, Heap.get?_push_size _ rfl, rfl, rfl⟩ hd3 ?_
    refine ⟨_, [(s1.heap.push { cls := .type "dict_values", data := .fields #[.ref a] }).objs.size], _, _, H2, rfl, I3.kept (t' := s1.toks) fun b o e => Heap.get?_push_of_some _ e, turn_vals ob a _ kvs (Nat.ne_of_lt hd3.lt_size), ⟨_, Heap.get?_push_size _ rfl, rfl, by rw [hlen3]; rfl⟩, fun b hb => ?_, q⟩
    rw [List.mem_singleton] at hb
    subst hb
    exact I3.fpOk (Nat.le_refl _) (I3.hok.fresh (Nat.le_refl _))
  rcases hrd with e | ⟨ob, e⟩
  · obtain ⟨z, hs, vs, rel, o, es, ep, ho, r⟩ := (show ObjOk X.prog X.w H1 s1.heap a (.dK kvs) from I1.hok a _ e)
    have I2 : Inv X pins σ (upd H1 a (.frz o (.dK kvs))) { s1 with heap := s1.heap, toks := s1.toks } := I1.write (t' := s1.toks) (by rw [e]; exact True.intro) (.inl rfl) (fun b u _ q => q) ⟨o, ho⟩ ⟨ho, z, hs, vs, rel, o, es, ep, ho, r⟩
    exact key _ o I2 upd_same (q o _ upd_same (same_upd rm_same rm_self))
  · exact key _ ob I1 e (q ob _ e rm_same)
theorem ivals {o : Expr} {to : TE} {apos cpos : Pos} (ho : QE X o to) (hbase : attributeBase o "values" X.env (eval o X.env) = eval o X.env := by rfl) (hline : (apos.endLine == cpos.line) = true := by rfl) : QI X tg (.Call (.Attribute o "values" apos) [] [] cpos) (iVals to) := .mk (pi_vals ho.un hbase hline)
variable {g : TG} {tt : TT} {te : TE} {acc : Addr} {σ0 : L2.St} {H0 : Hp} {Q : Hp → Prop}
theorem comp_vals {ob : Obj} {a : Addr} {kvs : List (Key × V)} (Pv : Nat → List V → L2.St → Hp → Prop) (h0 : Pv 0 [] σ0 H0) (hl : ∀ i ys σ H, Pv i ys σ H → H a = some (.frz ob (.dK kvs)))
    (hs : ∀ i ys k x σ H, kvs[i]? = some (k, x) → i < kvs.length → Pv i ys σ H → g x σ H fun σ2 H2 => tt σ2 H2 fun b H3 => if b = true then te σ2 H3 (CPost Pv acc kvs.length i σ2) else CSkip Pv kvs.length i σ2 H3)
    (hd : ∀ ys σ H, Pv kvs.length ys σ H → Q H) : CompW (Itw ob a kvs) g tt te acc σ0 H0 Q := by
  refine ⟨fun i m σ H => m = kvs.length - i ∧ i ≤ kvs.length ∧ ∃ ys, Pv i ys σ H, ⟨kvs.length, by simp, Nat.zero_le _, [], h0⟩, ?_⟩
  rintro i m σ H ⟨rfl, hi, ys, p⟩
  have q := hl i ys σ H p
  by_cases hlt : i < kvs.length
  · refine .inr ⟨⟨q, hlt⟩, fun x H1 y => ?_⟩
    obtain ⟨e, k, hk⟩ := y
    subst e
    have z := hs i ys k x σ _ hk hlt p
    unfold CPost CSkip at z
    exact z
  · have e : i = kvs.length := by lia
    subst e
    exact .inl ⟨⟨q, Nat.le_refl _⟩, hd ys σ H p⟩
end
end L3
namespace L3
open PySem PySem.Spec PyProof.Rows L2
section
variable {X : Cx}
end
end L3
namespace L3
open PySem PySem.Spec PyProof.Rows L2
section
variable {X : Cx}
theorem op_isB : OpR X (compareOp .Is) (fun x y H Q => ∃ a b, x = .bl a ∧ y = .bl b ∧ Q (.bl (decide (a = b))) H) := by
  intro pins s σ H x y v u Q I rx ry h
  obtain ⟨a, b, rfl, rfl, q⟩ := h
  cases rx
  cases ry
  refine wpAny_is_plain rfl (fin_bl I q ?_)
  cases a <;> cases b <;> rfl
theorem rIsB : ROp X (compareOp .Is) (fun x y H Q => ∃ a b, x = .bl a ∧ y = .bl b ∧ Q (.bl (decide (a = b))) H) := .mk op_isB
end
end L3
namespace HS
open PySem PySem.W PyProof.Rows
noncomputable def Good (r : Nat → Nat) (n : Nat) {α : Type} : KasT α → (α → Prop) → Prop
  | .ret a, Q => Q a
  | .ask i j k, Q => i < n ∧ j < n ∧ Good r n (k (decide (r i < r j))) Q
section
variable {r : Nat → Nat} {n : Nat}
theorem Good.mono {α : Type} {Q Q' : α → Prop} (hq : ∀ a, Q a → Q' a) : ∀ {t : KasT α}, Good r n t Q → Good r n t Q'
  | .ret a, h => hq a h
  | .ask _ _ k, h => ⟨h.1, h.2.1, Good.mono hq (t := k _) h.2.2⟩
theorem Good.bind {α β : Type} {f : α → KasT β} {Q : β → Prop} : ∀ {t : KasT α}, Good r n t (fun a => Good r n (f a) Q) → Good r n (t.bind f) Q
  | .ret _, h => h
  | .ask _ _ k, h => ⟨h.1, h.2.1, Good.bind (t := k _) h.2.2⟩
theorem Good.yes {α : Type} {Q : α → Prop} {t u : KasT α} {c : Prop} [Decidable c] (hc : c) (h : Good r n t Q) : Good r n (if decide c = true then t else u) Q := by
  rw [if_pos (decide_eq_true hc)]; exact h
theorem Good.no {α : Type} {Q : α → Prop} {t u : KasT α} {c : Prop} [Decidable c] (hc : ¬ c) (h : Good r n u Q) : Good r n (if decide c = true then t else u) Q := by
  rw [if_neg (by simpa using hc)]; exact h
noncomputable def R (r : Nat → Nat) (p : Array Nat) (i : Nat) : Nat := r (p.getD i 0)
theorem R_of {p q : Array Nat} {i j : Nat} (h : p[i]? = q[j]?) : R r p i = R r q j := by
  unfold R
  rw [Array.getD_eq_getD_getElem?, Array.getD_eq_getD_getElem?, h]
noncomputable def Ar (n : Nat) (p : Array Nat) : Prop := p.toList.Perm (List.range n)
theorem Ar.size {p : Array Nat} (h : Ar n p) : p.size = n := by
  have := h.length_eq
  rw [List.length_range, Array.length_toList] at this
  exact this
theorem Ar.lt {p : Array Nat} (h : Ar n p) (h0 : 0 < n) (i : Nat) : p.getD i 0 < n := by
  rw [Array.getD_eq_getD_getElem?]
  by_cases hi : i < p.size
  · rw [getElem?_pos p i hi]
    have : p[i] ∈ p.toList := by simp
    exact List.mem_range.mp (h.mem_iff.mp this)
  · rw [getElem?_neg p i hi]; exact h0
theorem Ar.perm {p q : Array Nat} (h : Ar n p) (e : q.Perm p) : Ar n q := (Array.perm_iff_toList_perm.mp e).trans h
noncomputable def Srt (r : Nat → Nat) (p : Array Nat) (m : Nat) : Prop := ∀ i j, i ≤ j → j < m → R r p i ≤ R r p j
noncomputable def Dsc (r : Nat → Nat) (p : Array Nat) (m : Nat) : Prop := ∀ i j, i ≤ j → j < m → R r p j ≤ R r p i
theorem R_rev {p : Array Nat} {i j : Nat} (hj : j ≤ p.size) (k : Nat) : R r (kas_rev p i j) k = if i ≤ k ∧ k < j then R r p (i + j - 1 - k) else R r p k := by
  have e := getElem?_mirror_all (i := i) hj k
  by_cases c : i ≤ k ∧ k < j
  · rw [if_pos c] at e ⊢; exact R_of e
  · rw [if_neg c] at e ⊢; exact R_of e
theorem R_rev_eq {p : Array Nat} {i j : Nat} (hj : j ≤ p.size) (he : ∀ k, i ≤ k → k < j → R r p k = R r p (j - 1)) (k : Nat) : R r (kas_rev p i j) k = R r p k := by
  rw [R_rev hj]
  by_cases c : i ≤ k ∧ k < j
  · rw [if_pos c, he _ (by lia) (by lia), he k c.1 c.2]
  · rw [if_neg c]
theorem rev_perm (p : Array Nat) (i j : Nat) : (kas_rev p i j).Perm p := mirror_perm _ _ _ _
theorem good_asc {p : Array Nat} {Q : Nat → Prop} (hp : Ar n p) (h0 : 0 < n) : ∀ (f m : Nat), 1 ≤ m → Srt r p m →
    (∀ k, m ≤ k → k ≤ m + f → Srt r p k → (k = m + f ∨ R r p k < R r p (k - 1)) → Q k) → Good r n (kas_asc p f m) Q
  | 0, m, _, hs, h => h m (Nat.le_refl _) (Nat.le_refl _) hs (.inl rfl)
  | f + 1, m, h1, hs, h => by
    refine ⟨hp.lt h0 _, hp.lt h0 _, ?_⟩
    by_cases c : R r p m < R r p (m - 1)
    · refine Good.yes c ?_
      exact h m (Nat.le_refl _) (by lia) hs (.inr c)
    · refine Good.no c ?_
      refine good_asc hp h0 f (m + 1) (by lia) (fun i j a b => ?_) fun k a b => h k (by lia) (by lia) |> fun z s o => z s (o.imp (fun e => by lia) id)
      by_cases e : j = m
      · subst e
        by_cases e2 : i = j
        · rw [e2]; exact Nat.le_refl _
        · have := hs i (j - 1) (by lia) (by lia)
          lia
      · exact hs i j a (by lia)
noncomputable def Alk (r : Nat → Nat) (p : Array Nat) (m q : Nat) : Prop := ∀ k, m - (q + 1) ≤ k → k < m → R r p k = R r p (m - 1)
theorem good_desc {Q : Array Nat × Nat × Nat → Prop} (h0 : 0 < n) : ∀ (f : Nat) (p : Array Nat) (m q : Nat), Ar n p → q + 1 ≤ m → m + f ≤ n → Dsc r p m → Alk r p m q →
    (∀ p' m' q', Ar n p' → q' + 1 ≤ m' → m ≤ m' → m' ≤ m + f → Dsc r p' m' → Alk r p' m' q' → Q (p', m', q')) → Good r n (kas_desc f p m q) Q
  | 0, p, m, q, hp, a, _, hd, he, h => h p m q hp a (Nat.le_refl _) (Nat.le_refl _) hd he
  | f + 1, p, m, q, hp, a, b, hd, he, h => by
    have hz := hp.size
    refine ⟨hp.lt h0 _, hp.lt h0 _, ?_⟩
    by_cases c : R r p m < R r p (m - 1)
    · refine Good.yes c ?_
      have hd' : Dsc r p (m + 1) := fun i j x y => by
        by_cases e : j = m
        · subst e
          by_cases e2 : i = j
          · rw [e2]; exact Nat.le_refl _
          · have := hd i (j - 1) (by lia) (by lia)
            lia
        · exact hd i j x (by lia)
      by_cases g : q > 0
      · rw [if_pos g]
        have hr : ∀ k, R r (kas_rev p (m - (q + 1)) m) k = R r p k := R_rev_eq (by lia) he
        refine good_desc h0 f _ (m + 1) 0 (hp.perm (rev_perm _ _ _)) (by lia) (by lia) (fun i j x y => ?_) (fun k x y => ?_) fun p' m' q' x1 x2 x3 x4 => h p' m' q' x1 x2 (by lia) (by lia)
        · rw [hr, hr]; exact hd' i j x y
        · have : k = m + 1 - 1 := by lia
          rw [this]
      · rw [if_neg g]
        refine good_desc h0 f _ (m + 1) 0 hp (by lia) (by lia) hd' (fun k x y => ?_) fun p' m' q' x1 x2 x3 x4 => h p' m' q' x1 x2 (by lia) (by lia)
        have : k = m + 1 - 1 := by lia
        rw [this]
    · refine Good.no c ?_
      refine ⟨hp.lt h0 _, hp.lt h0 _, ?_⟩
      by_cases c2 : R r p (m - 1) < R r p m
      · refine Good.yes c2 ?_
        exact h p m q hp a (Nat.le_refl _) (by lia) hd he
      · refine Good.no c2 ?_
        refine good_desc h0 f _ (m + 1) (q + 1) hp (by lia) (by lia) (fun i j x y => ?_) (fun k x y => ?_) fun p' m' q' x1 x2 x3 x4 => h p' m' q' x1 x2 (by lia) (by lia)
        · by_cases e : j = m
          · subst e
            by_cases e2 : i = j
            · rw [e2]; exact Nat.le_refl _
            · have := hd i (j - 1) (by lia) (by lia)
              lia
          · exact hd i j x (by lia)
        · rw [show m + 1 - 1 = m by lia]
          by_cases e : k = m
          · rw [e]
          · have := he k (by lia) (by lia)
            lia
theorem good_tail3 {p : Array Nat} {m : Nat} {Q : Nat × Array Nat → Prop} (hp : Ar n p) (h0 : 0 < n) (h1 : 1 ≤ m) (hm : m ≤ n) (hd : Dsc r p m)
    (h : ∀ k p', 1 ≤ k → k ≤ n → Ar n p' → Srt r p' k → Q (k, p')) : Good r n (kas_tail3 m n p) Q := by
  have hz := hp.size
  refine Good.bind (good_asc (hp.perm (rev_perm _ _ _)) h0 (n - m) m h1 (fun i j a b => ?_) fun k a b s _ => h k _ (by lia) (by lia) (hp.perm (rev_perm _ _ _)) s)
  rw [R_rev (by lia), R_rev (by lia), if_pos ⟨Nat.zero_le _, by lia⟩, if_pos ⟨Nat.zero_le _, b⟩]
  exact hd _ _ (by lia) (by lia)
theorem good_descPart {p : Array Nat} {m : Nat} {Q : Nat × Array Nat → Prop} (hp : Ar n p) (h0 : 0 < n) (hm : m + 1 ≤ n) (hd : Dsc r p (m + 1))
    (h : ∀ k p', 1 ≤ k → k ≤ n → Ar n p' → Srt r p' k → Q (k, p')) : Good r n (kas_descPart m n p) Q := by
  refine Good.bind (good_desc h0 _ p (m + 1) 0 hp (by lia) (by lia) hd (fun k x y => ?_) fun p' m' q' x1 x2 x3 x4 x5 x6 => ?_)
  · have : k = m + 1 - 1 := by lia
    rw [this]
  · have hz := x1.size
    show Good r n (if q' > 0 then _ else _) Q
    by_cases g : q' > 0
    · rw [if_pos g]
      have hr : ∀ k, R r (kas_rev p' (m' - (q' + 1)) m') k = R r p' k := R_rev_eq (by lia) x6
      exact good_tail3 (m := m') (x1.perm (rev_perm _ _ _)) h0 (by lia) (by lia) (fun i j x y => by rw [hr, hr]; exact x5 i j x y) h
    · rw [if_neg g]
      exact good_tail3 (m := m') x1 h0 (by lia) (by lia) x5 h
theorem good_count {p : Array Nat} {Q : Nat × Array Nat → Prop} (hp : Ar n p) (h0 : 0 < n)
    (h : ∀ k p', 1 ≤ k → k ≤ n → Ar n p' → Srt r p' k → Q (k, p')) : Good r n (kas_count n p) Q := by
  have hz := hp.size
  refine Good.bind (good_asc hp h0 (n - 1) 1 (Nat.le_refl _) (fun i j a b => by rw [show i = j by lia]; exact Nat.le_refl _) fun m a b s o => ?_)
  by_cases e : m = n
  · rw [if_pos (by rw [e]; exact beq_self_eq_true _)]
    exact h m p a (by lia) hp s
  · rw [if_neg (by simpa using e)]
    have hl : R r p m < R r p (m - 1) := o.resolve_left (by lia)
    by_cases g : m > 1
    · rw [if_pos g]
      refine ⟨hp.lt h0 _, hp.lt h0 _, ?_⟩
      by_cases c : R r p 0 < R r p (m - 1)
      · refine Good.yes c ?_
        exact h m p a (by lia) hp s
      · refine Good.no c ?_
        have al : ∀ k, 0 ≤ k → k < m → R r p k = R r p (m - 1) := fun k _ hk => by
          have a1 := s 0 k (by lia) hk
          have a2 := s k (m - 1) (by lia) (by lia)
          lia
        have hr : ∀ k, R r (kas_rev p 0 m) k = R r p k := R_rev_eq (by lia) al
        refine good_descPart (hp.perm (rev_perm _ _ _)) h0 (by lia) (fun i j x y => ?_) h
        rw [hr, hr]
        by_cases e3 : j = m
        · subst e3
          by_cases e2 : i = j
          · rw [e2]; exact Nat.le_refl _
          · rw [al i (by lia) (by lia)]; lia
        · rw [al i (by lia) (by lia), al j (by lia) (by lia)]; exact Nat.le_refl _
    · rw [if_neg g]
      refine good_descPart hp h0 (by lia) (fun i j x y => ?_) h
      by_cases e2 : i = j
      · rw [e2]; exact Nat.le_refl _
      · have ei : i = m - 1 := by lia
        have ej : j = m := by lia
        rw [ei, ej]; lia
theorem good_place {p : Array Nat} {k : Nat} {Q : Nat → Prop} (hp : Ar n p) (h0 : 0 < n) (hs : Srt r p k)
    (h : ∀ l, l ≤ k → (∀ i, i < l → R r p i ≤ R r p k) → (∀ i, l ≤ i → i < k → R r p k < R r p i) → Q l) :
    ∀ (f a b : Nat), a ≤ b → b ≤ k → b - a ≤ f → (∀ i, i < a → R r p i ≤ R r p k) → (∀ i, b ≤ i → i < k → R r p k < R r p i) → Good r n (kas_place p k f a b) Q
  | 0, a, b, x, y, z, u, v => h a (by lia) u fun i c => v i (by lia)
  | f + 1, a, b, x, y, z, u, v => by
    unfold kas_place
    by_cases g : a ≥ b
    · rw [if_pos g]; exact h a (by lia) u fun i c => v i (by lia)
    · rw [if_neg g]
      refine ⟨hp.lt h0 _, hp.lt h0 _, ?_⟩
      by_cases c : R r p k < R r p ((a + b) / 2)
      · refine Good.yes c ?_
        refine good_place hp h0 hs h f a ((a + b) / 2) (by lia) (by lia) (by lia) u fun i d e => ?_
        have := hs ((a + b) / 2) i d e
        lia
      · refine Good.no c ?_
        refine good_place hp h0 hs h f ((a + b) / 2 + 1) b (by lia) (by lia) (by lia) (fun i d => ?_) v
        have := hs i ((a + b) / 2) (by lia) (by lia)
        lia
theorem good_bin {Q : Array Nat → Prop} (h0 : 0 < n) (h : ∀ p, Ar n p → Srt r p n → Q p) : ∀ (f : Nat) (p : Array Nat) (k : Nat), k + f = n → Ar n p → Srt r p k → Good r n (kas_bin f p k) Q
  | 0, p, k, e, hp, hs => h p hp (by rw [← e]; exact hs)
  | f + 1, p, k, e, hp, hs => by
    have hz := hp.size
    refine Good.bind (good_place hp h0 hs (fun l hl u v => ?_) k 0 k (Nat.zero_le _) (Nat.le_refl _) (by lia) (fun i c => by lia) fun i c d => by lia)
    have hb : ∀ i, R r (bubble p k (k - l)) i = if i = l then R r p k else if l < i ∧ i ≤ k then R r p (i - 1) else R r p i := fun i => by
      have e := getElem?_bubble (xs := p) (src := k) (by lia) (k - l) (by lia) i
      rw [show k - (k - l) = l by lia] at e
      by_cases c : i = l
      · rw [if_pos c] at e ⊢; exact R_of e
      · rw [if_neg c] at e ⊢
        by_cases d : l < i ∧ i ≤ k
        · rw [if_pos d] at e ⊢; exact R_of e
        · rw [if_neg d] at e ⊢; exact R_of e
    refine good_bin h0 h f _ (k + 1) (by lia) (hp.perm (bubble_perm _ _ _)) fun i j a b => ?_
    rw [hb, hb]
    by_cases c1 : i = l
    · rw [if_pos c1]
      by_cases c2 : j = l
      · rw [if_pos c2]; exact Nat.le_refl _
      · rw [if_neg c2, if_pos ⟨by lia, by lia⟩]
        exact Nat.le_of_lt (v (j - 1) (by lia) (by lia))
    · rw [if_neg c1]
      by_cases d1 : l < i ∧ i ≤ k
      · rw [if_pos d1, if_neg (by lia), if_pos ⟨by lia, by lia⟩]
        exact hs _ _ (by lia) (by lia)
      · rw [if_neg d1]
        by_cases c2 : j = l
        · rw [if_pos c2]; exact u i (by lia)
        · rw [if_neg c2]
          by_cases d2 : l < j ∧ j ≤ k
          · rw [if_pos d2]; exact hs _ _ (by lia) (by lia)
          · rw [if_neg d2]; exact hs _ _ (by lia) (by lia)
theorem good_sort {Q : Array Nat → Prop} (h0 : 0 < n) (h : ∀ p, Ar n p → Srt r p n → Q p) : Good r n (kas_sort n) Q := by
  refine Good.bind (good_count (p := List.toArray (List.range n)) (.refl _) h0 fun k p' a b hp s => ?_)
  by_cases c : k < n
  · rw [if_pos c]
    exact good_bin h0 h _ p' _ (by lia) hp (by rw [show max k 1 = k by lia]; exact s)
  · rw [if_neg c]
    exact h p' hp (by rw [show n = k by lia]; exact s)
theorem Good.wp {α : Type} {Q : α → Prop} {G : α → Shared → Prop} {cmp : Nat → Nat → (Bool → Shared → Prop) → Shared → Prop} {s : Shared} (hq : ∀ a, Q a → G a s)
    (hc : ∀ i j (C : Bool → Shared → Prop), i < n → j < n → C (decide (r i < r j)) s → cmp i j C s) : ∀ {t : KasT α}, Good r n t Q → t.kasWp cmp G s
  | .ret a, h => hq a h
  | .ask _ _ k, h => hc _ _ _ h.1 h.2.1 (Good.wp hq hc (t := k _) h.2.2)
end
end HS
namespace HS
open PySem PySem.W PyProof.Rows
theorem lex_irr : ∀ x : List Int, HT.lexLt x x = false
  | [] => rfl
  | a :: x => by rw [HT.lexLt_cons, if_pos rfl]; exact lex_irr x
theorem lex_trans : ∀ {x y z : List Int}, HT.lexLt x y = true → HT.lexLt y z = true → HT.lexLt x z = true
  | [], [], _, h, _ => by cases h
  | _ :: _, [], _, h, _ => by cases h
  | [], _ :: _, [], _, h => by cases h
  | _ :: _, _ :: _, [], _, h => by cases h
  | [], _ :: _, _ :: _, _, _ => rfl
  | a :: x, b :: y, c :: z, h, g => by
    rw [HT.lexLt_cons] at h g ⊢
    by_cases e : a = b
    · rw [if_pos e] at h
      by_cases e2 : b = c
      · rw [if_pos e2] at g; rw [if_pos (e.trans e2)]; exact lex_trans h g
      · rw [if_neg e2] at g; rw [if_neg (by lia)]; have := of_decide_eq_true g; exact decide_eq_true (by lia)
    · rw [if_neg e] at h
      have h := of_decide_eq_true h
      by_cases e2 : b = c
      · rw [if_neg (by lia)]; exact decide_eq_true (by lia)
      · rw [if_neg e2] at g; have := of_decide_eq_true g; rw [if_neg (by lia)]; exact decide_eq_true (by lia)
theorem lex_tot : ∀ {x y : List Int}, HT.lexLt x y = false → HT.lexLt y x = false → x = y
  | [], [], _, _ => rfl
  | [], _ :: _, h, _ => by cases h
  | _ :: _, [], _, h => by cases h
  | a :: x, b :: y, h, g => by
    rw [HT.lexLt_cons] at h g
    by_cases e : a = b
    · subst e; rw [if_pos rfl] at h g; rw [lex_tot h g]
    · rw [if_neg e] at h; rw [if_neg (fun q => e q.symm)] at g
      have h := of_decide_eq_false h
      have g := of_decide_eq_false g
      lia
noncomputable def rk (L : List (List Int)) (i : Nat) : Nat := L.countP fun x => HT.lexLt x (L.getD i [])
theorem countP_lt {α : Type} {p q : α → Bool} : ∀ {l : List α} {a : α}, (∀ x ∈ l, p x = true → q x = true) → a ∈ l → p a = false → q a = true → l.countP p < l.countP q
  | x :: l, a, h, ha, hp, hq => by
    have hl : l.countP p ≤ l.countP q := List.countP_mono_left fun y hy => h y (.tail _ hy)
    rw [List.countP_cons, List.countP_cons]
    rcases List.mem_cons.mp ha with rfl | ha
    · rw [hp, hq]; simp only [Bool.false_eq_true, if_false, if_true]; lia
    · have ih := countP_lt (fun y hy => h y (.tail _ hy)) ha hp hq
      have hx := h x (.head _)
      cases hpx : p x with
      | false => simp only [Bool.false_eq_true, if_false]; lia
      | true => rw [hx hpx]; lia
theorem rk_lt {L : List (List Int)} {i j : Nat} (hi : i < L.length) (hj : j < L.length) : decide (rk L i < rk L j) = HT.lexLt (L.getD i []) (L.getD j []) := by
  have mi : L.getD i [] ∈ L := by rw [List.getD_eq_getElem?_getD, List.getElem?_eq_getElem hi]; exact List.getElem_mem hi
  have mj : L.getD j [] ∈ L := by rw [List.getD_eq_getElem?_getD, List.getElem?_eq_getElem hj]; exact List.getElem_mem hj
  have up : ∀ {x y : List Int}, x ∈ L → HT.lexLt x y = true → L.countP (fun z => HT.lexLt z x) < L.countP (fun z => HT.lexLt z y) := fun hx h =>
    countP_lt (fun z _ hz => lex_trans hz h) hx (lex_irr _) h
  cases c : HT.lexLt (L.getD i []) (L.getD j []) with
  | true => exact decide_eq_true (up mi c)
  | false =>
    refine decide_eq_false ?_
    unfold rk
    cases d : HT.lexLt (L.getD j []) (L.getD i []) with
    | true => have := up mj d; lia
    | false => rw [lex_tot c d]; lia
section
variable {prog : Program} {w : World} {A : Around} {E : Value → Shared → Prop} {s : Shared}
noncomputable def Asks (prog : Program) (w : World) (A : Around) (vs : List Value) (r : Nat → Nat) (s : Shared) : Prop :=
  wpAny (model prog w) A (keyKind' vs.toArray) (fun κ s' => s' = s ∧ ∀ i j (C : Bool → Shared → Prop), i < vs.length → j < vs.length → C (decide (r i < r j)) s → kas_ask prog w A κ vs i j C s) (fun _ _ => False) s
noncomputable def outOf (vs : List Value) (p : Array Nat) : List Value := p.toList.map fun i => vs.getD i Value.none
theorem out_short (vs : List Value) (h : vs.length < 2) : ((vs.toArray.zip vs.toArray).map (·.2)) = (outOf vs (List.toArray (List.range vs.length))).toArray := by
  unfold outOf
  cases vs with
  | nil => simp
  | cons v vs =>
    cases vs with
    | nil => simp
    | cons _ _ => exact absurd h (by simp)
theorem lsort {a : Addr} {vs : List Value} {n : Nat} {P : PySem.Fin → Shared → Prop} {r : Nat → Nat} (at_a : s.heap.get? a = some (seqObj "list" vs.toArray n)) (few : vs.length < 64)
    (asks : 2 ≤ vs.length → ∀ h', (∀ b o, b ≠ a → s.heap.get? b = some o → h'.get? b = some o) → Asks prog w A vs r { s with heap := h' })
    (fin : ∀ p, Ar vs.length p → Srt r p vs.length → P (.done (.ret .none)) { s with heap := sortedHeap s.heap a vs (outOf vs p).toArray }) : wpAny (model prog w) A (Builtin.«list.sort» ⟨[.ref a], []⟩) P E s := by
  have la : a < s.heap.objs.size := Heap.lt_size at_a
  have sl : vs.length ≤ sizeLine := by rw [sizeLine_eq]; lia
  obtain ⟨e1, at1⟩ : ∃ e1, (s.heap.update a (Obj.mapSeq fun _ => #[])).get? a = some (seqObj "list" #[] e1) := ⟨_, get?_update_seq at_a fun _ => #[]⟩
  have at6 : (((s.heap.update a (Obj.mapSeq fun _ => #[])).push (seqObj "tuple" vs.toArray 0)).push (seqObj "list" #[] 0)).get? a = some (seqObj "list" #[] e1) :=
    Heap.get?_push_of_some _ (Heap.get?_push_of_some _ at1)
  have old : ∀ b o, b ≠ a → s.heap.get? b = some o → (((s.heap.update a (Obj.mapSeq fun _ => #[])).push (seqObj "tuple" vs.toArray 0)).push (seqObj "list" #[] 0)).get? b = some o := fun b o hb q =>
    Heap.get?_push_of_some _ (Heap.get?_push_of_some _ (by rw [Heap.get?_update_ne _ _ _ _ hb]; exact q))
  have len : ∀ p, Ar vs.length p → (outOf vs p).toArray.size ≤ sizeLine + 1 := fun p hp => by
    rw [List.size_toArray]; unfold outOf; rw [List.length_map, Array.length_toList, hp.size]; lia
  rw [list_sort_plain]
  refine wpAny_bind (listItems_at at_a rfl (wpAny_bind (listUpdate_at at_a rfl ?_ (by rw [List.size_toArray]; exact sl) (Nat.zero_le _))))
  refine wpAny_bind (seqEpoch_at at1 rfl (wpAny_bind (wpAny_newTuple (wpAny_bind (wpAny_newList (wpAny_holding ?_) (Nat.zero_le _))) (by simpa using sl))))
  show wpAny (model prog w) A _ P E { s with heap := ((s.heap.update a (Obj.mapSeq fun _ => #[])).push (seqObj "tuple" vs.toArray 0)).push (seqObj "list" #[] 0) }
  dsimp only
  by_cases two : vs.toArray.size < 2
  · rw [if_pos two, if_pos two]
    have two' : vs.length < 2 := by simpa using two
    refine wpAny_bind (wpAny_pure ?_)
    rw [StateT.run_pure]
    refine wpAny_bind (wpAny_pure ?_)
    have hp : Ar vs.length (List.toArray (List.range vs.length)) := .refl _
    have out : (arrOf (SortSt.mk' general' (vs.toArray.zip vs.toArray) #[] 7 none)).map (·.2) = (outOf vs (List.toArray (List.range vs.length))).toArray := by
      show ((vs.toArray.zip vs.toArray).map (·.2)) = _
      exact out_short vs two'
    dsimp only
    refine wpAny_bind (seqEpoch_at at6 rfl ?_)
    rw [out]
    refine wpAny_bind (listUpdate_at at6 rfl ?_ (Nat.zero_le _) (len _ hp))
    simp only [bne_self_eq_false, Bool.false_eq_true, if_false]
    exact wpAny_pure (fin _ hp fun i j x y => by rw [show i = j by lia]; exact Nat.le_refl _)
  · rw [if_neg two, if_neg two]
    have two' : 2 ≤ vs.length := by
      rw [List.size_toArray] at two; lia
    refine wpAny_bind (wpAny_mono (asks two' _ old) (fun κ s' hk => ?_) fun _ _ x => x.elim)
    obtain ⟨rfl, hk⟩ := hk
    refine wpAny_bind (wpAny_mono (kat_run (ks := vs) (vs := vs) (κ := κ)
      (Q := fun st s' => s' = { s with heap := ((s.heap.update a (Obj.mapSeq fun _ => #[])).push (seqObj "tuple" vs.toArray 0)).push (seqObj "list" #[] 0) } ∧ ∃ p, Ar vs.length p ∧ Srt r p vs.length ∧ arrOf st = p.map (kas_item (vs.toArray.zip vs.toArray)) ∧ failedOf st = none)
      (G := fun p s' => s' = { s with heap := ((s.heap.update a (Obj.mapSeq fun _ => #[])).push (seqObj "tuple" vs.toArray 0)).push (seqObj "list" #[] 0) } ∧ Ar vs.length p ∧ Srt r p vs.length)
      rfl two' few (fun p st s' _ b c d => ⟨d.1, p, d.2.1, d.2.2, b, c⟩) (Good.wp (n := vs.length) (r := r) (Q := fun p => Ar vs.length p ∧ Srt r p vs.length) (fun p q => ⟨rfl, q⟩) hk (good_sort (by lia) fun p x y => ⟨x, y⟩))) ?_ fun _ _ x => x)
    rintro ⟨⟨⟩, st⟩ s' ⟨rfl, p, hp, hs, ha, hf⟩
    dsimp only
    refine wpAny_bind (seqEpoch_at at6 rfl ?_)
    rw [kat_snds rfl ha]
    refine wpAny_bind (listUpdate_at at6 rfl ?_ (Nat.zero_le _) (len p hp))
    rw [hf]
    simp only [bne_self_eq_false, Bool.false_eq_true, if_false]
    exact wpAny_pure (fin p hp hs)
theorem gsorted {l : Addr} {vs : List Value} {Q : Value → Shared → Prop} {r : Nat → Nat} (hl : s.heap.IsList l vs.toArray) (few : vs.length < 64)
    (asks : 2 ≤ vs.length → ∀ h', (∀ b o, s.heap.get? b = some o → h'.get? b = some o) → Asks prog w A.in1.in1 vs r { s with heap := h' })
    (fin : ∀ p, Ar vs.length p → Srt r p vs.length → Q (.ref (s.heap.objs.size + 1)) { s with heap := sortedAll s.heap vs (outOf vs p).toArray }) : wpAny (model prog w) A (call (.builtin "sorted") [.ref l]) Q E s := by
  have sl : vs.length ≤ sizeLine := by rw [sizeLine_eq]; lia
  refine Calls.call_function_entry kind_sorted plain_sorted entry_sorted (args_sorted1 _) ?_
  unfold Builtin.«sorted»
  refine wpAny_bind (m := checkCount "sorted" 1 1 _) (wpAny_pure (wpAny_bind (collect_list hl (wpAny_bind (wpAny_newList ?_ sl)) sl)))
  have z : ((s.heap.push (seqObj "list" #[] 0)).update s.heap.objs.size (Obj.mapSeq (· ++ vs.toArray))).objs.size = s.heap.objs.size + 1 := by
    rw [Heap.size_update, size_push']
  have at1 : (((s.heap.push (seqObj "list" #[] 0)).update s.heap.objs.size (Obj.mapSeq (· ++ vs.toArray))).push (seqObj "list" vs.toArray 0)).get? (s.heap.objs.size + 1) = some (seqObj "list" vs.toArray 0) := by
    rw [← z]; exact Heap.get?_push_size _ rfl
  have old : ∀ b o, s.heap.get? b = some o → (((s.heap.push (seqObj "list" #[] 0)).update s.heap.objs.size (Obj.mapSeq (· ++ vs.toArray))).push (seqObj "list" vs.toArray 0)).get? b = some o := fun b o q => by
    have lb : b < s.heap.objs.size := Heap.lt_size q
    exact Heap.get?_push_of_some _ (by rw [Heap.get?_update_ne _ _ _ _ (Nat.ne_of_lt lb)]; exact Heap.get?_push_of_some _ q)
  show wpAny _ _ _ _ _ { s with heap := ((s.heap.push (seqObj "list" #[] 0)).update s.heap.objs.size (Obj.mapSeq (· ++ vs.toArray))).push (seqObj "list" vs.toArray 0) }
  rw [z]
  refine wpAny_bind (wpAny_holding (wpAny_call_entry slot_list_sort ⟨_, at1, rfl⟩ entry_list_sort (lsort at1 few (fun t h' k => asks t h' fun b o q => k b o (Nat.ne_of_lt (Nat.lt_succ_of_lt (Heap.lt_size q))) (old b o q)) fun p x y => ⟨_, rfl, ?_⟩) (args_list_sort _)))
  exact wpAny_pure ⟨_, rfl, fin p x y⟩
inductive F2 {α β : Type} (R : α → β → Prop) : List α → List β → Prop where
  | nil : F2 R [] []
  | cons {a : α} {b : β} {as : List α} {bs : List β} : R a b → F2 R as bs → F2 R (a :: as) (b :: bs)
theorem F2.length_eq {α β : Type} {R : α → β → Prop} {as : List α} {bs : List β} (h : F2 R as bs) : as.length = bs.length := by
  induction h with
  | nil => rfl
  | cons _ _ ih => rw [List.length_cons, List.length_cons, ih]
theorem F2.imp {α β : Type} {R S : α → β → Prop} (f : ∀ a b, R a b → S a b) {as : List α} {bs : List β} (h : F2 R as bs) : F2 S as bs := by
  induction h with
  | nil => exact .nil
  | cons r _ ih => exact .cons (f _ _ r) ih
end
theorem srt_pairs {α : Type} {zs : List (α × List Int)} {p : Array Nat} (d : α × List Int) (hp : Ar zs.length p) (hs : Srt (rk (zs.map (·.2))) p zs.length) :
    (p.toList.map fun i => zs.getD i d).Perm zs ∧ (p.toList.map fun i => zs.getD i d).Pairwise fun a b => HT.lexLt b.2 a.2 = false := by
  have hz := hp.size
  constructor
  · refine (hp.map _).trans (List.Perm.of_eq ?_)
    refine List.ext_getElem (by simp) fun i h1 h2 => ?_
    simp [List.getD_eq_getElem?_getD, h2]
  · rw [List.pairwise_iff_getElem]
    intro i j hi hj hij
    simp only [List.length_map, Array.length_toList] at hi hj
    have gi : ∀ k (hk : k < p.size), p.toList[k]'(by simpa using hk) = p.getD k 0 := fun k hk => by simp [Array.getD, hk]
    simp only [List.getElem_map]
    rw [gi i hi, gi j hj]
    have h0 : 0 < zs.length := by lia
    have li := hp.lt h0 i
    have lj := hp.lt h0 j
    have le : rk (zs.map (·.2)) (p.getD i 0) ≤ rk (zs.map (·.2)) (p.getD j 0) := hs i j (by lia) (by lia)
    have q := rk_lt (L := zs.map (·.2)) (i := p.getD j 0) (j := p.getD i 0) (by simpa using lj) (by simpa using li)
    rw [decide_eq_false (by lia)] at q
    have sn : ∀ k, k < zs.length → (zs.map (·.2)).getD k [] = (zs.getD k d).2 := fun k hk => by simp [List.getD_eq_getElem?_getD, hk]
    rw [sn _ lj, sn _ li] at q
    exact q.symm
end HS
namespace L3
open PySem PySem.Spec PyProof.Rows L2
section
variable {X : Cx}
theorem vals_rf : ∀ {α : Type} {f : α → Addr} (zs : List α), Vals (zs.map fun z => V.ref (f z)) (zs.map fun z => Value.ref (f z))
  | _, _, [] => .nil
  | _, _, _ :: zs => .cons rfl (vals_rf zs)
theorem vals_rf_inv : ∀ {α : Type} {f : α → Addr} {zs : List α} {us : List Value}, Vals (zs.map fun z => V.ref (f z)) us → us = zs.map fun z => Value.ref (f z)
  | _, _, [], _, .nil => rfl
  | _, _, _ :: _, _, .cons h t => by cases h; rw [vals_rf_inv t]; rfl
end
end L3
namespace HS
open PySem PySem.W PyProof.Rows
section
variable {prog : Program} {w : World} {A : Around} {E : Value → Shared → Prop} {s : Shared}
end
end HS
namespace L3
open PySem PySem.Spec PyProof.Rows L2
section
variable {X : Cx}
end
end L3
namespace L3
open PySem PySem.Spec PyProof.Rows PySem.W L2
section
variable {X : Cx}
noncomputable def rNeE : R2 := fun x y H Q => ∃ (d e : Addr) (kvs : List (Key × V)), x = .ref d ∧ y = .ref e ∧ Rd H d (.dK kvs) ∧ H e = some (.dK []) ∧ Q (.bl (!kvs.isEmpty)) H
theorem op_neE (hu : X.A.units < cLine) : OpR X (compareOp .NotEq) rNeE := by
  intro pins s σ H x y v u Q I rx ry h
  obtain ⟨d, e, kvs, rfl, rfl, hd, he, q⟩ := h
  cases rx
  cases ry
  obtain ⟨_, nd, vs, rel, dd⟩ := dk_rd I.hok hd
  obtain ⟨_, ne, vs', rel', de⟩ := dk_of I.hok he
  have e0 : vs' = [] := List.eq_nil_of_length_eq_zero (by rw [← rel'.length]; rfl)
  subst e0
  refine keq_ne (r := true) nd ne dd de hu (fun z => ?_) (fin_bl I q ?_)
  · have : vs = [] := List.eq_nil_of_length_eq_zero z
    rw [this]; exact .nil
  · have := rel.length
    cases kvs with
    | nil =>
      have : vs = [] := List.eq_nil_of_length_eq_zero (by rw [← this]; rfl)
      rw [this]; rfl
    | cons a r =>
      cases vs with
      | nil => cases this
      | cons b t => rfl
theorem rNeDE {k : Nat} {A : Around} (hr : Room k A) (hA : X.A = A := by rfl) : ROp X (compareOp .NotEq) rNeE := .mk (op_neE (by rw [hA]; exact Nat.lt_of_succ_lt (hu_of hr)))
end
end L3
namespace L3
open PySem PySem.Spec PyProof.Rows L2
section
variable {X : Cx}
end
end L3
namespace L3
open PySem PySem.Spec PyProof.Rows L2
section
variable {P : Program} {w : World} {K : PySem.W.Frag} {mg : Str → Option Value} {base : Heap}
end
section
variable {X : Cx}
end
end L3
namespace L3
open PySem PySem.Spec PyProof.Rows L2
section
variable {X : Cx}
end
section
variable {P : Program} {w : World} {K : PySem.W.Frag} {mg : Str → Option Value} {base : Heap}
end
end L3
namespace L3
open PySem PySem.Spec PyProof.Rows L2
end L3
namespace L3
open PySem PySem.Spec PyProof.Rows L2
end L3
namespace L3
open PySem PySem.Spec PyProof.Rows L2
section
variable {prog : Program} {w : World} {A : Around}
variable {R : Result → Shared → Prop} {it : Addr} {fp wr : List Addr} {n : Nat} {P : Nat → Value → Prop} {St : Nat → Heap → Prop} {kw : List (Str × Value)}
end
section
variable {X : Cx}
end
end L3
namespace L3
open PySem PySem.Spec PySem.Calls PyProof.Rows L2
section
open Builtin Builtin.ObjectAttr Builtin.Getset_descriptor
structure ExcF (K : PySem.W.Frag) (C : Addr) : Prop where
  ga : PySem.W.findIn K (.ref C) "__getattribute__" = some (some (.builtin "BaseException.__getattribute__"))
  gt : PySem.W.findIn K (.ref C) "__getattr__" = some none
  bas : PySem.W.mroIn K C (.type "BaseException") = some true
  isc : (PySem.W.clsIn K C).isSome = true
  fnd : PySem.W.findIn K (.ref C) "__class__" = some (some (.builtin "object.__class__"))
  spc : PySem.W.specialIn K (.builtin "object.__class__") "__get__" = some (some (.builtin "getset_descriptor.__get__"))
  tks : PySem.W.takesIn K (.builtin "object.__class__") = some true
  mro : PySem.W.mroIn K C (.type "object") = some true
noncomputable def ExcAt (a C : Addr) (h : Heap) : Prop := ∃ o, h.get? a = some o ∧ o.cls = .ref C
section
variable {K : PySem.W.Frag} {x D : Addr}
theorem exc_ty {M : Model} {h : Heap} (e : ExcAt x D h) : PySem.W.Looks M h (typeOf (.ref x)) (.ref D) := by
  obtain ⟨o, e1, e2⟩ := e
  rw [← e2]
  exact (PySem.W.Looks.ld e1).andThen .now
theorem exc_find {M : Model} {h : Heap} (F : ExcF K D) (X : K.In h) : PySem.W.Looks M h (find (.ref x) (.ref D) "__class__") (.bind (.builtin "getset_descriptor.__get__") (.builtin "object.__class__")) := by
  have l1 := PySem.W.looks_findIn (M := M) X F.fnd
  have l2 : PySem.W.Looks M h (getOf (some (.builtin "object.__class__"))) (some (.builtin "getset_descriptor.__get__")) := PySem.W.looks_specialIn X F.spc
  have l3 : PySem.W.Looks M h (dataDescriptor? (some (.builtin "object.__class__")) (some (.builtin "getset_descriptor.__get__"))) (some (.builtin "getset_descriptor.__get__", .builtin "object.__class__")) := (PySem.W.looks_takesIn (M := M) X F.tks).andThen .now
  exact l1.andThen (l2.andThen (l3.andThen (PySem.W.Looks.tag .now)))
variable {prog : Program} {w : World} {A : Around} {E : Value → Shared → Prop} {s : Shared}
theorem exc_get {R : Result → Shared → Prop} {tp : Value} (F : ExcF K D) (X : K.In s.heap) (e : ExcAt x D s.heap) (h : R (.ok (.ret (.ref D))) s) :
    codeAny (model prog w) A (.call (.builtin "getset_descriptor.__get__") ⟨[.builtin "object.__class__", .ref x, tp], []⟩) R s := by
  obtain ⟨h0, g0, d0, t0, o0⟩ := s
  have la := exc_ty (M := model prog w) e
  have lb := PySem.W.looks_mroIn (M := model prog w) X F.mro
  refine codeAny_call_builtin PySem.W.KF.slot_gs.plain PySem.W.KF.entry_gs (PySem.W.KF.slot_gs.check _ _ _ _ _ _ _ _ PySem.W.KF.type_class (PySem.W.KF.args_gs _ _ _) ?_)
  unfold Builtin.«getset_descriptor.__get__»; unfold descrGet
  rw [PySem.W.dga_obj]; refine wpAny_bind (wpAny_pure ?_)
  unfold descrGetter; unfold descrCheckInstance descrNameAndClass; unfold isInstance
  simp only [PySem.W.KF.owner_class]
  repeat lk
  refine ⟨Code.quiet_builtin _ (by decide +kernel), codeAny_builtin PySem.W.KF.entry_class ?_⟩
  unfold Builtin.«object.__class__»; unfold shownTypeOf
  repeat lk
  exact h
theorem exc_ask {R : Result → Shared → Prop} {tk : Tok} (F : ExcF K D) (X : K.In s.heap) (e : ExcAt x D s.heap) (h : R (.ok (.ret (.ref D))) s) :
    codeAny (model prog w) A (.call (.builtin "BaseException.__getattribute__") ⟨[.ref x, .str "__class__" tk], []⟩) R s := by
  obtain ⟨h0, g0, d0, t0, o0⟩ := s
  have la := exc_ty (M := model prog w) e
  have lm := PySem.W.looks_mroIn (M := model prog w) X F.bas
  have lc := exc_find (M := model prog w) (x := x) F X
  refine codeAny_call_builtin PySem.F.attr_ValueError.ga.plain PySem.F.entry_bexc_ga ?_
  have k1 : builtinKind "BaseException.__getattribute__" = some .slot := by decide +kernel
  have k2 : splitId "BaseException.__getattribute__" = some ("BaseException", "__getattribute__") := by decide +kernel
  have k3 := PySem.F.args_bexc_ga (.ref x) (.str "__class__" tk)
  simp only [checkBuiltinCall, k1, k2]
  refine wpAny_bind ?_
  unfold isInstance
  refine wpAny_bind (la.at (lm.at ?_))
  simp only [Bool.not_true, Bool.false_eq_true, if_false]
  repeat (any_goals (first | assumption | wp_step))
  obtain ⟨o, e1, e2⟩ := id e
  refine wpAny_loadPart_at e1 (wpAny_pure ?_)
  rw [e2]
  refine wpAny_bind (lc.at ?_)
  dsimp only
  unfold bindTo
  refine wpAny_bind (wpAny_holding (wpAny_call (exc_get F X e ?_)))
  exact wpAny_pure h
theorem exc_class {Q : Option Value → Shared → Prop} (F : ExcF K D) (X : K.In s.heap) (e : ExcAt x D s.heap) (h : Q (some (.ref D)) { s with toks := s.toks + 1 }) : wpAny (model prog w) A (getAttr? (.ref x) "__class__") Q E s := by
  obtain ⟨h0, g0, d0, t0, o0⟩ := s
  have la := exc_ty (M := model prog w) e
  have lb := PySem.W.looks_findIn (M := model prog w) X F.ga
  have ld := PySem.W.looks_findIn (M := model prog w) X F.gt
  have hx : ¬ (onTheHeap (Value.ref D) && Value.builtin "BaseException.__getattribute__" == Value.builtin "object.__getattribute__") = true := by
    rw [show (Value.builtin "BaseException.__getattribute__" == Value.builtin "object.__getattribute__") = false by decide +kernel, Bool.and_false]
    exact Bool.false_ne_true
  unfold getAttr?; unfold getAttrBy?; unfold getAttrBy
  refine wpAny_bind (wpAny_mkText (wpAny_bind (wpAny_attempt (wpAny_holding (wpAny_bind (la.at (wpAny_bind (lb.at ?_))))))))
  dsimp only
  rw [if_neg hx]
  unfold getAttrByItsOwn
  refine wpAny_bind (m := hookBefore (.ref D)) (ld.at ?_)
  refine wpAny_bind (wpAny_attempt (wpAny_holding ?_))
  change wpAny _ _ (boundAndCalled (.builtin "BaseException.__getattribute__") (.ref x) (.str "__class__" t0)) _ _ _
  unfold boundAndCalled
  refine wpAny_bind (wpAny_of_eq (PySem.F.attr_ValueError.ga.bind _) ?_)
  refine wpAny_call (exc_ask F X e ?_)
  exact PySem.W.handed_on rfl (wpAny_pure h)
theorem kitx_exc (F : ExcF K D) : PySem.W.KitX K (.ref x) (.ref D) (ExcAt x D) where
  ty := fun _ _ _ e => exc_ty e
  it := fun _ _ X _ => by
    have z := F.isc
    unfold PySem.W.clsIn at z
    split at z
    · rename_i ho
      intro A' Q' E' s' k q
      unfold isType; unfold loadHead
      exact wpAny_bind (wpAny_loadPart (k _ _ (X _ _ ho)) (wpAny_pure q))
    · cases z
  ne := fun h tp dd its n sl X htp => by
    refine Bool.eq_false_iff.mpr fun q => ?_
    have e : D = tp := Value.ref.inj (beq_iff_eq.mp q)
    subst e
    have z := F.isc
    unfold PySem.W.clsIn at z
    split at z
    · rename_i ho
      cases (X _ _ ho).symm.trans htp
    · cases z
  ca := fun X e k => exc_class F X e k
end
end
noncomputable def excE (a C : Addr) : HO := .ext (ExcAt a C)
noncomputable def rIsE (K : PySem.W.Frag) : List V → Hp → VK → Prop := fun xs H Q => ∃ (a C : Addr) (y : V), xs = [.ref a, y] ∧ H a = some (excE a C) ∧ ExcF K C ∧
  ((∃ T b, y = .ty T ∧ PySem.W.kitOne K (.ref C) (.type T) = some b ∧ Q (.bl b) H) ∨ (∃ D b, y = .ref D ∧ PySem.W.kitOne K (.ref C) (.ref D) = some b ∧ Q (.bl b) H) ∨
    ∃ (tp : Addr) (ds : List Addr) (b : Bool), y = .ref tp ∧ H tp = some (.tup (ds.map V.ref)) ∧ PySem.W.kitAny K (.ref C) (ds.map Value.ref) = some b ∧ Q (.bl b) H)
theorem vals_ads : ∀ {ds : List Addr} {us : List Value}, Vals (ds.map V.ref) us → us = ds.map Value.ref
  | [], _, .nil => rfl
  | d :: ds, _, .cons r t => by
    rw [vals_ads t]
    cases (show _ = Value.ref d from r)
    rfl
section
variable {X : Cx}
theorem call_isE : CallR X (.builtin "isinstance") (rIsE X.K) := by
  intro pins s σ H vs us Q I r h
  obtain ⟨a, C, y, rfl, ea, F, h⟩ := h
  cases r with
  | cons r1 r =>
  cases r with
  | cons r2 r =>
  cases r
  rename_i u1 u2
  cases (show u1 = Value.ref a from r1)
  have he : ExcAt a C s.heap := (show ObjOk X.prog X.w H s.heap a (.ext (ExcAt a C)) from I.hok a _ ea).1
  rcases h with ⟨T, b, rfl, e, q⟩ | ⟨D, b, rfl, e, q⟩ | ⟨tp, ds, b, rfl, et, e, q⟩
  · cases (show u2 = Value.type T from r2)
    exact PySem.W.kia_one (kitx_exc F) I.kIn he e (fun z => nomatch z) fun tk => ⟨.bl b, H, I.tok tk, rfl, q⟩
  · cases (show u2 = Value.ref D from r2)
    exact PySem.W.kia_one (kitx_exc F) I.kIn he e (fun z => nomatch z) fun tk => ⟨.bl b, H, I.tok tk, rfl, q⟩
  · cases (show u2 = Value.ref tp from r2)
    obtain ⟨_, its, rv, o, h1, h2, h3⟩ := (show ObjOk X.prog X.w H s.heap tp (.tup (ds.map V.ref)) from I.hok tp _ et)
    obtain rfl := vals_ads rv
    obtain ⟨oc, od, oda, osl⟩ := o
    cases h2
    obtain ⟨n, h3⟩ := h3
    cases h3
    exact PySem.W.kia_tup (kitx_exc F) I.kIn he h1 e (fun z => nomatch z) fun tk => ⟨.bl b, H, I.tok tk, rfl, q⟩
end
end L3
namespace L3
open PySem PySem.Spec PyProof.Rows L2
theorem objok_there {P : Program} {w : World} {H : Hp} {h : Heap} {a : Addr} {o : HO} (x : ObjOk P w H h a o) : ∃ ob, h.get? a = some ob := by
  cases o with
  | lst xs => obtain ⟨_, its, n, _, e⟩ := x; exact ⟨_, e⟩
  | tup xs => obtain ⟨_, its, _, ob, e, _⟩ := x; exact ⟨_, e⟩
  | dK kvs => obtain ⟨_, _, vs, _, ob, es, ep, e, _⟩ := x; exact ⟨_, e⟩
  | dT kvs => obtain ⟨_, _, xs, _, ob, es, ep, e, _⟩ := x; exact ⟨_, e⟩
  | set S n => obtain ⟨ob, es, ep, t, e, _⟩ := x; exact ⟨_, e⟩
  | ins C dx fs => obtain ⟨_, _, _, e, _⟩ := x; exact ⟨_, e⟩
  | own y => exact x
  | xd fs => obtain ⟨mA, ⟨od, es, ep, e, _⟩, _⟩ := x; exact ⟨_, e⟩
  | rng lo hi => obtain ⟨t, u, v, e⟩ := x; exact ⟨_, e⟩
  | frz ob u => obtain ⟨e, _⟩ := x; exact ⟨_, e⟩
  | tbl ps => exact ⟨_, x⟩
  | met f y => exact ⟨_, x⟩
  | ext φ => exact x.2.1
noncomputable def Kept (fs : List Addr) (H' : Hp) (h h1 B : Heap) : Prop := ∀ b o, h1.get? b = some o → b ∉ fs → ((∃ u, H' b = some u) ∨ ∃ o', h.get? b = some o') → B.get? b = some o
theorem fly_un {P : Program} {w : World} {fs : List Addr} {H H' : Hp} {h h1 h2 B : Heap} (u : Un fs [] H H' h h1) (hok : HOk P w H' h1) (hfr : ∀ b ∈ fs, H' b = none ∧ ∃ o, h1.get? b = some o ∧ ∀ vs, o.data ≠ .fields vs)
    (hB : Kept fs H' h h1 B) (st : B.StaysIn h2) (up : h1.UpToSlots h2) : Un fs [] H H' h h2 ∧ HOk P w H' h2 ∧ Kept fs H' h h2 B := by
  have kept : ∀ b o, h1.get? b = some o → b ∉ fs → ((∃ u, H' b = some u) ∨ ∃ o', h.get? b = some o') → h2.get? b = some o := fun b o e nf z => st _ _ (hB b o e nf z)
  have nfr : ∀ b v, H' b = some v → b ∉ fs := fun b v e z => by rw [(hfr b z).1] at e; cases e
  refine ⟨⟨fun b o q n hb hx => kept b o (u.keep b o q n hb hx) hb (.inr ⟨o, q⟩), fun b o q n hb hx => ?_, u.free, fun b o q hx => ?_, u.tups, u.frzs, u.tbls⟩, fun a o e => ?_, fun b o e nf z => ?_⟩
  · obtain ⟨sl, e⟩ := u.slot b o q n hb hx
    obtain ⟨_, o1, ho1, hd⟩ := hfr b hb
    rw [e] at ho1
    cases ho1
    obtain ⟨sl', e'⟩ := up b _ e hd
    exact ⟨sl', e'⟩
  · obtain ⟨o', e⟩ := u.there b o q hx
    by_cases hb : b ∈ fs
    · obtain ⟨_, o1, ho1, hd⟩ := hfr b hb
      obtain ⟨sl', e'⟩ := up b o1 ho1 hd
      exact ⟨_, e'⟩
    · exact ⟨o', kept b o' e hb (.inr ⟨o, q⟩)⟩
  · refine (hok a o e).stay (fun b v hb q => kept b v q ?_ (.inl ?_)) (fun _ q => q) fun _ _ q => q
    · rcases hb with rfl | hb
      · exact nfr _ _ e
      · exact nfr _ _ hb
    · rcases hb with rfl | hb
      · exact ⟨_, e⟩
      · exact ⟨_, hb⟩
  · obtain ⟨o1, e1⟩ : ∃ o1, h1.get? b = some o1 := by
      rcases z with ⟨v, e'⟩ | ⟨o', e'⟩
      · exact objok_there (hok b v e')
      · exact u.there b o' e' (by simp)
    have := kept b o1 e1 nf z
    rw [e] at this
    cases this
    exact hB b _ e1 nf z
theorem fly_track {P : Program} {w : World} {fs : List Addr} {H H' : Hp} {h h2 : Heap} {ea C : Addr} (u : Un fs [] H H' h h2) (hok : HOk P w H' h2) (n : h.get? ea = none) (n' : H' ea = none) (e : ExcAt ea C h2) :
    Un fs [] H (upd H' ea (excE ea C)) h h2 ∧ HOk P w (upd H' ea (excE ea C)) h2 := by
  have ne : ∀ b o, h.get? b = some o → b ≠ ea := fun b o q z => by rw [z, n] at q; cases q
  have nt : ∀ b v, H' b = some v → b ≠ ea := fun b v q z => by rw [z, n'] at q; cases q
  refine ⟨⟨u.keep, u.slot, fun b o q m hx => by rw [upd_ne (ne b o q)]; exact u.free b o q m hx, u.there, fun b xs q => ?_, fun b o xs q => ?_, fun b ps q => ?_⟩, fun a o q => ?_⟩
  · have := u.tups b xs q
    rw [upd_ne (nt _ _ this)]; exact this
  · have := u.frzs b o xs q
    rw [upd_ne (nt _ _ this)]; exact this
  · obtain ⟨more, this⟩ := u.tbls b ps q
    exact ⟨more, by rw [upd_ne (nt _ _ this)]; exact this⟩
  · by_cases ha : a = ea
    · subst ha
      rw [upd_same] at q
      cases q
      refine ⟨e, ?_, fun h1 h2 ⟨o, q1, q2⟩ k => ⟨o, k o q1, q2⟩⟩
      obtain ⟨o, q1, _⟩ := e
      exact ⟨o, q1⟩
    · rw [upd_ne ha] at q
      exact (hok a o q).stay (fun _ _ _ q => q) (fun b q => by rw [upd_ne (nt _ _ q)]; exact q) fun b xs q => by rw [upd_ne (nt _ _ q)]; exact q
noncomputable def CXE (P : Program) (w : World) : CXT := fun outer H s E e s' => ∃ (ea t C : Addr) (B : Heap) (H' : Hp), e = .ref ea ∧ s'.os = s.os ∧ AllBare s'.gens ∧ Un (frs outer) [] H H' s.heap s'.heap ∧ HOk P w H' s'.heap ∧
  s.heap.get? ea = none ∧ H' ea = none ∧ Heap.FlyingW B outer ea (.ref C) (.ref t) s'.heap ∧ Kept (frs outer) H' s.heap s'.heap B ∧ E (.ref C) none H'
section
variable {X : Cx} {pins : List (Addr × Obj)} {σ : St} {H : Hp} {s : Shared}
theorem inv_frames (I : Inv X pins σ H s) : ∀ b ∈ X.fs, H b = none ∧ ∃ o, s.heap.get? b = some o ∧ ∀ vs, o.data ≠ .fields vs := fun b hb => by
  obtain ⟨_, o0, h0, _⟩ := I.ok.funs.mem hb
  exact ⟨I.base.free b o0 h0 (I.ok.frf b hb) fun z => I.ok.exfs b z hb, (I.funs.mem hb).2⟩
theorem inv_stack (I : Inv X pins σ H s) : ∀ b ∈ frs X.stack, H b = none ∧ ∃ o, s.heap.get? b = some o ∧ ∀ vs, o.data ≠ .fields vs := fun b hb => ⟨I.stkFree b hb, (I.stack.mem hb).2⟩
end
section
variable {P : Program} {w : World} {K : PySem.W.Frag} {mg : Str → Option Value} {base : Heap} {N : List Str} {qual : Str} {scope : Scope} {f : Addr} {cd : Value} {A : Around} {outer : List Env} {s : Shared} {H : Hp} {E : XK}
theorem raise_leaves {pins : List (Addr × Obj)} {σ : St} {H2 : Hp} {s2 : Shared} {h' : Heap} {e C : Addr} {us : List Value} (I : Inv (cxOf (CXE P w) P w K mg base N qual scope f cd A outer s H E) pins σ H2 s2) (hm : Heap.MadeExcOf s2.heap h' e (.ref C) us) (q : E (.ref C) none H2) :
    (cxOf (CXE P w) P w K mg base N qual scope f cd A outer s H E).xe (.ref e) { s2 with heap := h' } := by
  have hL : ∀ b, b ∉ frs outer → ((∃ u, H2 b = some u) ∨ ∃ o', s.heap.get? b = some o') → b ∉ frs (envOfC qual scope s.heap.objs.size f cd :: outer) := fun b nf z hb => by
    rcases List.mem_cons.mp (I.stkSub b hb) with e | hb
    · rcases z with ⟨u, z⟩ | ⟨o, z⟩
      · rw [e] at z
        rw [show H2 _ = none from I.free] at z
        cases z
      · rw [e] at z
        exact absurd (Heap.lt_size z) (Nat.lt_irrefl _)
    · exact nf hb
  refine wpAny_leaves_madeW (base := PySem.W.hideAll s2.heap (frs (envOfC qual scope s.heap.objs.size f cd :: outer))) (h := s2.heap) I.ok.frames rfl (fun b o q => PySem.W.of_hideAll _ q) (PySem.W.funFrames_hide I.stack (fun env he a hf => List.mem_filterMap.mpr ⟨env, he, hf⟩)) hm fun h3 t x1 x2 x3 x4 => ?_
  obtain ⟨un, hok, hB⟩ := fly_un (h2 := h3) (show Un (frs outer) [] H H2 s.heap s2.heap from I.base) (show HOk P w H2 s2.heap from I.hok) (inv_frames I) (fun b o e nf z => PySem.W.hideAll_get _ e (hL b nf z)) x1.1 ((Heap.UpToSlots.of_keeps hm.keeps).trans x4)
  refine ⟨e, t, C, _, H2, rfl, I.os, I.bare, un, hok, ?_, ?_, x1, hB, q⟩
  · cases z : s.heap.get? e with
    | none => rfl
    | some o =>
      obtain ⟨o', e'⟩ := I.base.there e o z (fun z => nomatch z)
      rw [hm.new] at e'; cases e'
  · cases z : H2 e with
    | none => rfl
    | some v =>
      obtain ⟨o, e'⟩ := objok_there (I.hok e v z)
      rw [hm.new] at e'; cases e'
structure ErrK (K : PySem.W.Frag) (mg : Str → Option Value) (x : Str) (C : Addr) : Prop where
  at_ : mg x = some (.ref C)
  own : PySem.W.excIn K C [.type "ValueError", .type "Exception", .type "BaseException", .type "object"] "ValueError.__new__" = true
noncomputable def tRaise (E : XK) (C : Addr) (t : TA) : TS := fun _ σ H => t σ H fun vs H1 => vs.length ≤ sizeLine ∧ E (.ref C) none H1
theorem ps_raise {x : Str} {C : Addr} {e0 : Expr} {es : List Expr} {t : TA} {np cpos pos : Pos} (R : ErrK K mg x C) (hg : Gl (cxOf (CXE P w) P w K mg base N qual scope f cd A outer s H E) x) (ha : PA (cxOf (CXE P w) P w K mg base N qual scope f cd A outer s H E) (e0 :: es) t)
    (hdb : (x == ("__debug__" : Str)) = false := by decide) (he : starEach (e0 :: es) (cxOf (CXE P w) P w K mg base N qual scope f cd A outer s H E).env = (false, eval e0 (cxOf (CXE P w) P w K mg base N qual scope f cd A outer s H E).env) :: starEach es (cxOf (CXE P w) P w K mg base N qual scope f cd A outer s H E).env := by rfl)
    (hpl : (backTo cpos (starEach es (cxOf (CXE P w) P w K mg base N qual scope f cd A outer s H E).env)).any (·.1) = false := by rfl) :
    PS (cxOf (CXE P w) P w K mg base N qual scope f cd A outer s H E) (.Raise (some (.Call (.Name x np) (e0 :: es) [] cpos)) none pos) (tRaise E C t) := by
  intro pins s1 σ H1 D I h
  have hown := R.own
  unfold PySem.W.excIn at hown
  split at hown
  case h_2 => cases hown
  rename_i dd cdd sl ho
  split at hown
  case h_2 => cases hown
  rename_i C' bm k0 k1 k2 k3 nn k5 hmr hs
  simp only [Bool.and_eq_true, beq_iff_eq, Bool.not_eq_true'] at hown
  obtain ⟨⟨⟨⟨⟨rfl, rfl⟩, hdel⟩, ht⟩, hok⟩, hni⟩ := hown
  obtain ⟨nm, bs, mro, ns, qn, hd, sn, sub, ab, col, del⟩ := cdd
  dsimp only at hmr hdel hok hni
  subst hmr hdel
  have hsl : sl = #[k0, k1, k2, k3, some (.builtin "ValueError.__new__"), k5] := by
    obtain ⟨l⟩ := sl
    simp only at hs
    rw [hs]
  subst hsl
  have hC := I.ok.mod.kin _ _ ho
  have T := PySem.W.tail_of_in I.ok.mod.kin ht
  have F := PySem.F.excBase_ValueError
  refine wpAny_Raise_call_subU (C := C') (nm := nm) (q := qn) (N := ns) (bs := bs) (bm := bm) (hdct := hd) (sn := sn) (sub := sub) (ab := ab) (col := col) (dd := dd) (k0 := k0) (k1 := k1) (k2 := k2) (k3 := k3) (k5 := k5) F F.hasB F (mN := base.nsMap ns) (T.hasType F.hasBase) (I.ok.hd rfl)
    (by rw [he]; show (false || (backTo cpos (starEach es (cxOf (CXE P w) P w K mg base N qual scope f cd A outer s H E).env)).any (·.1)) = false; rw [hpl]; rfl) (PySem.W.nsMap_none_of_in I.ok.mod.kin hok hni) (ld_glob I hg R.at_ ⟨rfl, ?_⟩ hdb)
  have hpa := ha cpos pins s1 σ H1 _ I h
  rw [he] at hpa ⊢
  refine Calls.evalArgs_plain (wpAny_mono hpa (fun us s2 ⟨vs, H2, I2, rv, hl, q⟩ => ⟨rfl, ?_, I2.bk _ _ hC, (Heap.Ns.of_isNs (PySem.W.isNs_of_in I.ok.mod.kin hok)).keeps I2.bk, T.keeps I2.bk, fun h' e hm => raise_leaves I2 hm q⟩) fun _ _ y => y)
  rw [← rv.length]; exact hl
end
end L3
namespace L3
open PySem PySem.Spec PyProof.Rows L2
noncomputable abbrev TX := Ends → (St → Value → Hp → Prop) → St → Hp → Prop
noncomputable def Flown (X : Cx) (pins : List (Addr × Obj)) (EX : St → Value → Hp → Prop) (e : Value) (s' : Shared) : Prop :=
  ∃ (σ1 : St) (H1 : Hp) (s1 : Shared), Inv X pins σ1 H1 s1 ∧ CXE X.prog X.w X.stack H1 s1 (fun c _ H' => EX σ1 c H') e s'
noncomputable def PX (X : Cx) (sts : List Stmt) (t : TX) : Prop := ∀ (pins : List (Addr × Obj)) (s : Shared) (σ : St) (H : Hp) (D : Ends) (EX : St → Value → Hp → Prop), Inv X pins σ H s → t D EX σ H →
  wpAny (model X.prog X.w) X.A (execs sts X.env) (SP X pins D) (Flown X pins EX) s
section
variable {X : Cx}
theorem ld_globA {pins : List (Addr × Obj)} {s : Shared} {σ : St} {H : Hp} {A : Around} {E : Value → Shared → Prop} {x : Str} {u : Value} {pos : Pos} {Q : Value → Shared → Prop} (I : Inv X pins σ H s) (hg : Gl X x) (hm : X.mg x = some u) (h : Q u s)
    (hdb : (x == ("__debug__" : Str)) = false := by decide) : wpAny (model X.prog X.w) A (eval (.Name x pos) X.env) Q E s :=
  Calls.Name_function_global I.ok.kind hg (Calls.loadGlobal_global (by rw [I.ok.glob]; exact I.ok.mod.glob.keeps I.bk) hm h) hdb
theorem PA.nox {es : List Expr} {t : TA} {pins : List (Addr × Obj)} {s : Shared} {σ : St} {H : Hp} {Q : List V → Hp → Prop} {E : Value → Shared → Prop} (h : PA X.nox es t) (pos : Pos) (I : Inv X pins σ H s) (q : t σ H Q) :
    wpAny (model X.prog X.w) X.A (spliced (backTo pos (starEach es X.env))) (AP X pins σ Q) E s :=
  wpAny_mono (h pos pins s σ H Q (I.wish _) q) (fun _ _ ⟨vs, H', I', r, q⟩ => ⟨vs, H', I'.unwish, r, q⟩) fun _ _ z => False.elim z
noncomputable def xCall (sp : Sp) (t : TA) : TX := fun D EX σ H => t σ H fun vs H1 => sp vs H1 (fun _ H2 => D.nx σ H2) (fun c _ H2 => EX σ c H2)
theorem px_call {k : Nat} {x : Str} {sp : Sp} {e : Expr} {es : List Expr} {t : TA} {p pos ep : Pos} (C : Cal X.prog X.w X.K X.mg X.base (CXE X.prog X.w) k x sp) (hr : Room k X.A) (hg : Gl X x) (ha : PA X.nox (e :: es) t)
    (hdb : (x == ("__debug__" : Str)) = false := by decide) (he : starEach (e :: es) X.env = (false, eval e X.env) :: starEach es X.env := by rfl) (hpl : (backTo pos (starEach es X.env)).any (·.1) = false := by rfl)
    (hs : swapsWith (.Call (.Name x p) (e :: es) [] pos) none ep.line X.env = pure false := by rfl) : PX X [.Expr (.Call (.Name x p) (e :: es) [] pos) ep] (xCall sp t) := by
  intro pins s σ H D EX I h
  obtain ⟨f, fd, ps, F, hm, hk, hb⟩ := C
  refine wpAny_execs_cons (wpAny_Expr_any ?_ I.quiet hs)
  refine wpAny_Call_Name_kw (ld_globA I hg hm ?_ hdb)
  refine PySem.W.callWith_K (h₀ := X.base) I.ok.mod.kin hk (wpAny_mono (PA.nox ha pos I h) (fun us s1 ⟨vs, H1, I1, r, q⟩ => ⟨I1.kIn, ?_⟩) fun _ _ z => z) he hpl
  have hl : us.length = ps.length := by rw [← r.length]; exact F.len _ _ _ _ q
  have hbb := hb s1 us I1.kIn (by rw [List.append_nil]; exact hl)
  rw [List.append_nil] at hbb
  refine wpAny_call (codeAny_mono (F.run X.A X.stack s1 H1 ⟨us, []⟩ us vs _ _ hr I1.env0 hbb r q) fun r s' hq => ?_)
  cases r with
  | error e => exact ⟨σ, H1, s1, I1, hq⟩
  | ok fl =>
    cases fl with
    | ret u =>
      obtain ⟨v, H', I', r', q'⟩ := I1.after hq
      exact wpAny_execs_nil ⟨σ, H', I', q'⟩
    | next => exact False.elim hq
    | brk => exact False.elim hq
    | cont => exact False.elim hq
noncomputable abbrev marked (X : Cx) (e : Addr) : Cx := { X with A := X.A.mark (some (.ref e)), calm := false, xe := fun _ _ => False }
theorem inv_marked {pins : List (Addr × Obj)} {σ : St} {H : Hp} {s : Shared} (I : Inv X pins σ H s) (e : Addr) : Inv (marked X e) pins σ H s :=
  ⟨⟨I.ok.mod, I.ok.kind, I.ok.glob, I.ok.blt, I.ok.above, I.ok.inj, I.ok.has, I.ok.cab, fun z => Bool.noConfusion z, I.ok.frames, I.ok.stk, I.ok.exf, I.ok.bs, I.ok.bsz, I.ok.noex, I.ok.exfs, I.ok.funs, I.ok.frf⟩, I.os, I.bare, I.base, I.loc, I.cell, I.free, I.freeC, I.pin, I.hok, I.len⟩
theorem inv_unmarked {pins : List (Addr × Obj)} {σ : St} {H : Hp} {s : Shared} {e : Addr} (ok : X.Ok) (I : Inv (marked X e) pins σ H s) : Inv X pins σ H s :=
  ⟨ok, I.os, I.bare, I.base, I.loc, I.cell, I.free, I.freeC, I.pin, I.hok, I.len⟩
theorem name_goes {pins : List (Addr × Obj)} {σ : St} {H : Hp} {s : Shared} {i : Nat} {n : Str} {pos : Pos} {A : Around} {E : Value → Shared → Prop} {Q : Unit → Shared → Prop} (I : Inv X pins σ H s) (hN : X.N.Nodup) (hi : X.N[i]? = some n) (hk : X.env.scope.names.lookup n = some .local)
    (h : ∀ s', Inv X pins (σ.set i none) H s' → Q () s') : wpAny (model X.prog X.w) A (do bindName X.env n .none; unbindBehindTheSuite X.env n pos) Q E s := by
  obtain ⟨m, hn, hl⟩ := id I.loc
  have hcls : (X.env.scope.kind == .class || (X.env.scope.kind == .module && X.env.locals != X.env.globals)) = false := by rw [I.ok.kind]; rfl
  obtain ⟨oL, _, _, hoL, _⟩ := id hn
  refine wpAny_nameGoes_keeps hk hn hcls fun h' v hn' hs => h _ ?_
  have old : ∀ b o, X.s₀.heap.get? b = some o → b ≠ X.env.locals := fun b o e => Nat.ne_of_lt (Nat.lt_of_lt_of_le (Heap.lt_size e) I.ok.above)
  refine ⟨I.ok, I.os, I.bare, ⟨fun b o e m' hb hx => (hs.2 b (old b o e)).trans (I.base.keep b o e m' hb hx), fun b o e m' hb hx => ?_, I.base.free, fun b o e hx => ?_, I.base.tups, I.base.frzs, I.base.tbls⟩, ⟨_, hn', fun j y v' e1 e2 e3 => ?_⟩, fun y c e => ?_, I.free, I.freeC, fun p hp => ?_, fun b ob e => ?_, by simpa using I.len⟩
  · obtain ⟨sl, e1⟩ := I.base.slot b o e m' hb hx
    exact ⟨sl, (hs.2 b (old b o e)).trans e1⟩
  · obtain ⟨o', e1⟩ := I.base.there b o e hx
    exact ⟨o', (hs.2 b (old b o e)).trans e1⟩
  · by_cases hj : j = i
    · subst hj
      rw [List.getElem?_set] at e2
      split at e2
      · split at e2 <;> cases e2
      · rename_i z; exact absurd rfl z
    · rw [List.getElem?_set_ne (Ne.symm hj)] at e2
      obtain ⟨u', r', q⟩ := hl j y v' e1 e2 e3
      refine ⟨u', r', ?_⟩
      rcases q with ⟨k, e⟩ | ⟨k, c, e, z⟩
      · have ne : y ≠ n := fun e => hj (nodup_ix hN e1 (e ▸ hi))
        exact .inl ⟨k, by simp [ne, e]⟩
      · exact .inr ⟨k, c, e, z.sameBut hs (I.cne y c e)⟩
  · obtain ⟨w', z⟩ := I.cell y c e
    exact ⟨w', z.sameBut hs (I.cne y c e)⟩
  · obtain ⟨e, n', ne, nf, d⟩ := I.pin p hp
    exact ⟨(hs.2 p.1 ne).trans e, n', ne, nf, d⟩
  · refine (I.hok b ob e).stay (fun c w' hc q => (hs.2 c ?_).trans q) (fun _ q => q) fun _ _ q => q
    rintro rfl
    have hf := I.free
    rcases hc with rfl | hc
    · rw [hf] at e; cases e
    · rw [hf] at hc; cases hc
noncomputable def tTry (K : PySem.W.Frag) (CL : Addr) (i : Nat) (tb : TX) (ts : TS) : TS := fun D σ H => tb D (fun σ1 c H1 => PySem.W.exmOne K c (.ref CL) = some true ∧ ∀ (ea C : Addr), c = .ref C → H1 ea = none →
  ts { nx := fun σ2 H2 => D.nx (σ2.set i none) H2, rt := D.rt } (σ1.set i (some (.ref ea))) (upd H1 ea (excE ea C))) σ H
theorem ps_try {body : List Stmt} {tb : TX} {x n : Str} {CL : Addr} {i : Nat} {b0 : Stmt} {suite : List Stmt} {ts : TS} {np hpos pos : Pos} (hb : PX X body tb) (hg : Gl X x) (hm : X.mg x = some (.ref CL)) (hN : X.N.Nodup) (hi : X.N[i]? = some n) (hk : X.env.scope.names.lookup n = some .local)
    (hst : X.stack = X.env :: X.outer) (hfr : X.env.frame = some X.env.locals) (hs : ∀ e, PSs (marked X e) (b0 :: suite) ts) (hdb : (x == ("__debug__" : Str)) = false := by decide) :
    PS X (.Try body [.ExceptHandler (some (.Name x np)) (some n) (b0 :: suite) hpos] [] [] pos) (tTry X.K CL i tb ts) := by
  intro pins s σ H D I h
  refine wpAny_Try_except (wpAny_mono (hb pins s σ H D _ I h) (fun fl s1 q => ?_) fun e s1 q => ?_)
  · cases fl with
    | next => exact wpAny_execs_nil q
    | ret u => exact q
    | brk => exact q
    | cont => exact q
  obtain ⟨σ1, H1, s0, I1, ea, t, C, B, H', rfl, os, bare, un, hok, new, fre, fly, hB, hmat, hq⟩ := q
  have Ia : Inv X pins σ1 H' s1 := I1.call' os un hok bare (fun b z => absurd z (by simp))
  have hA : X.A.frames = some (X.env :: X.outer) := by rw [← hst]; exact I.ok.frames
  have land : ∀ h2, B.StaysIn h2 → s1.heap.UpToSlots h2 → Un (frs X.stack) [] H1 H' s0.heap h2 ∧ HOk X.prog X.w H' h2 ∧ Kept (frs X.stack) H' s0.heap h2 B := fun h2 z1 z2 => fly_un un hok (inv_stack Ia) hB z1 z2
  rw [hst] at fly
  refine wpAny_looks_onW hA hfr fly fun h4 held4 up4 => ?_
  refine wpAny_landsW held4 fun h5 fly5 up5 => ?_
  have up15 := up4.trans up5
  obtain ⟨un5, hok5, _⟩ := land h5 fly5.1 up15
  have I5 : Inv X pins σ1 H' { s1 with heap := h5 } := I1.call' (s' := { s1 with heap := h5 }) os un5 hok5 bare (fun b z => absurd z (by simp))
  refine wpAny_handleBy_cons (codeAny_handlers_test (ld_globA I5 hg hm ?_ hdb)) (by intro q; cases q)
  refine (PySem.W.exm_one I5.kIn (exc_ty fly5.there) hmat).here ?_
  refine codeAny_handlers_suite_as ?_
  refine lands_againW fly5 fun h6 fly6 up6 => ?_
  obtain ⟨un6, hok6, _⟩ := land h6 fly6.1 (up15.trans up6)
  obtain ⟨un7, hok7⟩ := fly_track un6 hok6 new fre fly6.there
  have I7 : Inv X pins σ1 (upd H' ea (excE ea C)) { s1 with heap := h6 } := I1.call' (s' := { s1 with heap := h6 }) os un7 hok7 bare (fun b z => absurd z (by simp))
  refine store_ok (v := .ref ea) I7 hN hi (.inl hk) rfl (fun s8 I8 => ?_) (.inr hk)
  refine wpAny_mono (hs ea pins s8 _ _ _ (inv_marked I8 ea) (hq ea C rfl fre)) (fun fl s9 q9 => ?_) fun _ _ z => False.elim z
  cases fl with
  | next =>
    obtain ⟨σ', H9, I9, q9⟩ := q9
    exact name_goes (inv_unmarked I8.ok I9) hN hi hk fun s' I' => ⟨_, _, I', q9⟩
  | ret u =>
    obtain ⟨v, σ', H9, I9, r9, q9⟩ := q9
    exact name_goes (inv_unmarked I8.ok I9) hN hi hk fun s' I' => ⟨v, _, _, I', r9, q9⟩
  | brk =>
    obtain ⟨_, _, _, q9⟩ := q9
    exact False.elim q9
  | cont =>
    obtain ⟨_, _, _, q9⟩ := q9
    exact False.elim q9
end
end L3
namespace L3
open PySem PySem.Spec PyProof.Rows L2
section
variable {X : Cx}
end
end L3
namespace L3
open PySem PySem.Spec PyProof.Rows L2
theorem bt_ValueError : bootBuiltins "ValueError" = some (.type "ValueError") := by decide +kernel
theorem Fd.calE {P : Program} {w : World} {K : PySem.W.Frag} {mg : Str → Option Value} {base : Heap} {x : Str} {st : Stmt} {f : Addr} {N ps : List Str} {k : Nat} {sp : Sp} (F : Fd K mg x st f) (S : FnScope N ps (defScope st))
    (hb : ∀ (kV doc pm : Value) (an : Option Addr) (cdv ct : Value) (us : List Value), us.length = ps.length → bindArgs (PySem.W.fnOf x x (defArgs st) (defBody st) (defScope st) .none kV doc pm an cdv ct) ⟨us, []⟩ = pure (ps.zip us))
    (len : ∀ vs H Q E, sp vs H Q E → vs.length = ps.length)
    (hbody : ∀ (cdv : Value) (A : Around) (outer : List Env) (s : Shared) (H : Hp) (vs : List V) (Q : VK) (E : XK), Room k (A.deeper (envOfC x (defScope st) s.heap.objs.size f cdv)) → sp vs H Q E →
      ∃ t, QSs (cxOf (CXE P w) P w K mg base N x (defScope st) f cdv A outer s H E) (defBody st) t ∧ t { nx := fun _ H' => Q .non H', rt := Q } (start N vs) H) : Cal P w K mg base (CXE P w) (k + 1) x sp := by
  obtain ⟨⟨fd, F1⟩, F2⟩ := F
  refine ⟨f, fd, ps, ?_, F2, F1.kp, F1.binds hb⟩
  obtain ⟨oc, od, kV, doc, pm, an, cdv, ct, osl, rfl, lk, hcd⟩ := F1.ex
  refine fn_of lk hcd S len fun A outer s H vs Q E hr hsp => ?_
  obtain ⟨t, p, q⟩ := hbody cdv A outer s H vs Q E hr hsp
  exact ⟨t, p.un, q⟩
theorem passN {P : Program} {w : World} {X : Cx} : Passes (CXE P w) X E0 := fun _ _ _ _ _ _ _ h => by
  obtain ⟨_, _, _, _, _, _, _, _, _, _, _, _, _, _, q⟩ := h
  exact q.elim
section
variable {X : Cx}
theorem PS.nox {st : Stmt} {t : TS} (h : PS X.nox st t) : PS X st t := fun pins s σ H D I hw =>
  wpAny_mono (h pins s σ H D (I.wish _) hw) (fun _ _ q => q.unwish) fun _ _ z => False.elim z
theorem snox {st : Stmt} {t : TS} (h : QS X.nox st t) : QS X st t := .mk (PS.nox h.un)
theorem qcl {x : Str} {C : Addr} {pos : Pos} (hg : Gl X x) (hm : X.mg x = some (.ref C)) (hd : (x == ("__debug__" : Str)) = false := by decide) : QE X (.Name x pos) (tC (.ref C)) := .mk (pe_glob hg hm rfl hd)
theorem fIsE (K : PySem.W.Frag) (hK : X.K = K := by rfl) : RCall X (.builtin "isinstance") (rIsE K) := by subst hK; exact .mk call_isE
@[irreducible] noncomputable def QX (X : Cx) (sts : List Stmt) (t : TX) : Prop := PX X sts t
theorem QX.un {sts : List Stmt} {t : TX} (h : QX X sts t) : PX X sts t := by unfold QX at h; exact h
theorem QX.mk {sts : List Stmt} {t : TX} (h : PX X sts t) : QX X sts t := by unfold QX; exact h
theorem xcall {k : Nat} {x : Str} {sp : Sp} {e : Expr} {es : List Expr} {t : TA} {p pos ep : Pos} (C : Cal X.prog X.w X.K X.mg X.base (CXE X.prog X.w) k x sp) (hr : Room k X.A) (hg : Gl X x) (ha : QA X.nox (e :: es) t)
    (hdb : (x == ("__debug__" : Str)) = false := by decide) (he : starEach (e :: es) X.env = (false, eval e X.env) :: starEach es X.env := by rfl) (hpl : (backTo pos (starEach es X.env)).any (·.1) = false := by rfl)
    (hs : swapsWith (.Call (.Name x p) (e :: es) [] pos) none ep.line X.env = pure false := by rfl) : QX X [.Expr (.Call (.Name x p) (e :: es) [] pos) ep] (xCall sp t) := .mk (px_call C hr hg ha.un hdb he hpl hs)
theorem stry {body : List Stmt} {tb : TX} {x n : Str} {CL : Addr} {i : Nat} {b0 : Stmt} {suite : List Stmt} {ts : TS} {np hpos pos : Pos} (K : PySem.W.Frag) (hb : QX X body tb) (hg : Gl X x) (hm : X.mg x = some (.ref CL)) (hN : X.N.Nodup) (hi : X.N[i]? = some n) (hk : X.env.scope.names.lookup n = some .local)
    (hst : X.stack = X.env :: X.outer) (hfr : X.env.frame = some X.env.locals) (hs : ∀ e, QSs (marked X e) (b0 :: suite) ts) (hdb : (x == ("__debug__" : Str)) = false := by decide) (hK : X.K = K := by rfl) :
    QS X (.Try body [.ExceptHandler (some (.Name x np)) (some n) (b0 :: suite) hpos] [] [] pos) (tTry K CL i tb ts) := by subst hK; exact .mk (ps_try hb.un hg hm hN hi hk hst hfr (fun e => (hs e).un) hdb)
end
section
variable {P : Program} {w : World} {K : PySem.W.Frag} {mg : Str → Option Value} {base : Heap} {N : List Str} {qual : Str} {scope : Scope} {f : Addr} {cd : Value} {A : Around} {outer : List Env} {s : Shared} {H : Hp} {E : XK}
theorem sraise {x : Str} {C : Addr} {e0 : Expr} {es : List Expr} {t : TA} {np cpos pos : Pos} (R : ErrK K mg x C) (hg : Gl (cxOf (CXE P w) P w K mg base N qual scope f cd A outer s H E) x) (ha : QA (cxOf (CXE P w) P w K mg base N qual scope f cd A outer s H E) (e0 :: es) t)
    (hdb : (x == ("__debug__" : Str)) = false := by decide) (he : starEach (e0 :: es) (cxOf (CXE P w) P w K mg base N qual scope f cd A outer s H E).env = (false, eval e0 (cxOf (CXE P w) P w K mg base N qual scope f cd A outer s H E).env) :: starEach es (cxOf (CXE P w) P w K mg base N qual scope f cd A outer s H E).env := by rfl)
    (hpl : (backTo cpos (starEach es (cxOf (CXE P w) P w K mg base N qual scope f cd A outer s H E).env)).any (·.1) = false := by rfl) :
    QS (cxOf (CXE P w) P w K mg base N qual scope f cd A outer s H E) (.Raise (some (.Call (.Name x np) (e0 :: es) [] cpos)) none pos) (tRaise E C t) := .mk (ps_raise R hg ha.un hdb he hpl)
end
end L3
namespace L3
open PySem PySem.SeqAt PySem.Spec PyProof.Rows L2
section
variable {X : Cx}
end
section
variable {X : Cx}
end
end L3
namespace L3
open PySem L2
theorem for_listN {K : PySem.W.Frag} {a : Addr} {xs : List V} {g : TG} {tb : TS} {D : Ends} {σ : L2.St} {H : Hp} (Pv : Nat → L2.St → Hp → Prop) (h0 : Pv 0 σ H) (hl : ∀ i σ H, i ≤ xs.length → Pv i σ H → SqL K H a xs)
    (hs : ∀ (N B : L2.St → Hp → Prop) (R : VK) i x σ H, xs[i]? = some x → (∀ σ H, Pv (i + 1) σ H → N σ H) → (∀ σ H, D.nx σ H → B σ H) → (∀ v H, D.rt v H → R v H) → Pv i σ H → g x σ H fun σ2 H2 => tb ⟨N, R, B, N⟩ σ2 H2) (hd : ∀ σ H, Pv xs.length σ H → D.nx σ H) :
    ∃ W : Nat → Nat → L2.St → Hp → Prop, (∃ m, W 0 m σ H) ∧ ∀ i m σ H, W i m σ H →
      ((Itl K a).stop i H ∧ D.nx σ H) ∨ ((Itl K a).go i H ∧ ∃ N : L2.St → Hp → Prop, (∀ σ' H', N σ' H' → ∃ m', m' < m ∧ W (i + 1) m' σ' H') ∧ ∀ x H', (Itl K a).yld i H x H' → g x σ H' fun σ2 H2 => tb { D with nx := N, ct := N, bk := D.nx } σ2 H2) :=
  for_list Pv h0 hl (fun i x σ H hx hp => hs _ _ _ i x σ H hx (fun _ _ h => h) (fun _ _ h => h) (fun _ _ h => h) hp) hd
theorem for_dictN {g : TG} {ob : Obj} {a : Addr} {kvs : List (Key × V)} {tb : TS} {D : Ends} {σ : L2.St} {H : Hp} (Pv : Nat → L2.St → Hp → Prop) (h0 : Pv 0 σ H) (hl : ∀ i σ H, i ≤ kvs.length → Pv i σ H → H a = some (.frz ob (.dK kvs)))
    (hs : ∀ (N B : L2.St → Hp → Prop) (R : VK) i k x σ H, kvs[i]? = some (k, x) → (∀ σ H, Pv (i + 1) σ H → N σ H) → (∀ σ H, D.nx σ H → B σ H) → (∀ v H, D.rt v H → R v H) → Pv i σ H → g (kV k) σ H fun σ2 H2 => tb ⟨N, R, B, N⟩ σ2 H2) (hd : ∀ σ H, Pv kvs.length σ H → D.nx σ H) :
    ∃ W : Nat → Nat → L2.St → Hp → Prop, (∃ m, W 0 m σ H) ∧ ∀ i m σ H, W i m σ H →
      ((Itd ob a kvs).stop i H ∧ D.nx σ H) ∨ ((Itd ob a kvs).go i H ∧ ∃ N : L2.St → Hp → Prop, (∀ σ' H', N σ' H' → ∃ m', m' < m ∧ W (i + 1) m' σ' H') ∧ ∀ x H', (Itd ob a kvs).yld i H x H' → g x σ H' fun σ2 H2 => tb { D with nx := N, ct := N, bk := D.nx } σ2 H2) :=
  for_dict Pv h0 hl (fun i k x σ H hx hp => hs _ _ _ i k x σ H hx (fun _ _ h => h) (fun _ _ h => h) (fun _ _ h => h) hp) hd
end L3
namespace L3
inductive Tr where
  | nil
  | node (l : Tr) (k : Int) (r : Tr)
namespace Tr
noncomputable def d : Tr → D
  | nil => .non
  | node l k r => .tup [l.d, .int k, r.d]
noncomputable def ht : Tr → Nat
  | nil => 0
  | node l _ r => max l.ht r.ht + 1
noncomputable def size : Tr → Nat
  | nil => 0
  | node l _ r => l.size + 1 + r.size
noncomputable def keys : Tr → List Int
  | nil => []
  | node l k r => l.keys ++ [k] ++ r.keys
noncomputable def ins (x : Int) : Tr → Tr
  | nil => node nil x nil
  | node l k r => if x < k then node (l.ins x) k r else node l k (r.ins x)
noncomputable def ord : Tr → Option Int → Option Int → Prop
  | nil, _, _ => True
  | node l k r, lo, hi => (∀ a, lo = some a → a < k) ∧ (∀ b, hi = some b → k < b) ∧ l.ord lo (some k) ∧ r.ord (some k) hi
theorem ht_size : ∀ t : Tr, t.ht ≤ t.size
  | nil => Nat.le_refl _
  | node l k r => by have := ht_size l; have := ht_size r; simp only [ht, size]; lia
theorem keys_length : ∀ t : Tr, t.keys.length = t.size
  | nil => rfl
  | node l k r => by simp only [keys, size, List.length_append, List.length_singleton, keys_length l, keys_length r]
theorem mem_ins (x y : Int) : ∀ t : Tr, y ∈ (t.ins x).keys ↔ y = x ∨ y ∈ t.keys
  | nil => by simp [ins, keys]
  | node l k r => by
    unfold ins
    split
    · simp only [keys, List.mem_append, List.mem_singleton, mem_ins x y l]; grind
    · simp only [keys, List.mem_append, List.mem_singleton, mem_ins x y r]; grind
theorem ins_ord (x : Int) : ∀ (t : Tr) (lo hi : Option Int), t.ord lo hi → x ∉ t.keys → (∀ a, lo = some a → a < x) → (∀ b, hi = some b → x < b) → (t.ins x).ord lo hi
  | nil, lo, hi, _, _, h1, h2 => ⟨h1, h2, trivial, trivial⟩
  | node l k r, lo, hi, h, hx, h1, h2 => by
    obtain ⟨a1, a2, a3, a4⟩ := h
    simp only [keys, List.mem_append, List.mem_singleton, not_or] at hx
    unfold ins
    split
    · exact ⟨a1, a2, ins_ord x l lo (some k) a3 hx.1.1 h1 (fun b e => by cases e; assumption), a4⟩
    · refine ⟨a1, a2, a3, ins_ord x r (some k) hi a4 hx.2 (fun a e => ?_) h2⟩
      cases e
      have := hx.1.2
      lia
end Tr
end L3
namespace L3
noncomputable def maxI : List Int → Int
  | [] => 0
  | [a] => a
  | a :: r => max a (maxI r)
theorem maxI_spec : ∀ (ns : List Int) (M : Int), M ∈ ns → (∀ a ∈ ns, a ≤ M) → M = maxI ns
  | [], M, h, _ => by simp at h
  | [a], M, h, _ => by simpa [maxI] using h
  | a :: b :: r, M, h, hm => by
    have ih := maxI_spec (b :: r)
    rw [maxI]
    · have hx : ∀ x ∈ b :: r, x ≤ maxI (b :: r) := fun x hx => by
        have key : ∀ (l : List Int), l ≠ [] → maxI l ∈ l ∧ ∀ x ∈ l, x ≤ maxI l := by
          intro l
          induction l with
          | nil => intro h; exact absurd rfl h
          | cons y t iht =>
            intro _
            cases t with
            | nil => simp [maxI]
            | cons z t =>
              obtain ⟨i1, i2⟩ := iht (by simp)
              rw [maxI]
              · constructor
                · rcases Int.le_total y (maxI (z :: t)) with h | h
                  · rw [Int.max_eq_right h]; exact List.mem_cons_of_mem _ i1
                  · rw [Int.max_eq_left h]; exact List.mem_cons_self
                · intro x hx
                  rcases List.mem_cons.mp hx with rfl | hx
                  · lia
                  · have := i2 x hx; lia
              · intro h; cases h
        exact (key (b :: r) (by simp)).2 x hx
      have hmem : maxI (b :: r) ∈ b :: r := by
        have key : ∀ (l : List Int), l ≠ [] → maxI l ∈ l := by
          intro l
          induction l with
          | nil => intro h; exact absurd rfl h
          | cons y t iht =>
            intro _
            cases t with
            | nil => simp [maxI]
            | cons z t =>
              have i1 := iht (by simp)
              rw [maxI]
              · rcases Int.le_total y (maxI (z :: t)) with h | h
                · rw [Int.max_eq_right h]; exact List.mem_cons_of_mem _ i1
                · rw [Int.max_eq_left h]; exact List.mem_cons_self
              · intro h; cases h
        exact key (b :: r) (by simp)
      have h1 := hm _ (List.mem_cons_of_mem a hmem)
      have h2 := hm a List.mem_cons_self
      rcases List.mem_cons.mp h with rfl | h
      · lia
      · have h3 := hx M h; lia
    · intro h; cases h
noncomputable def ruleM (ks : List (Int × Int)) (room : Int) : Int × Int :=
  if ks = [] then (1, 1) else
    let lv := maxI (ks.map (·.1))
    let sz := 1 + ((ks.filter fun p => decide (p.1 = lv)).map (·.2)).sum
    if sz ≤ room then (lv, sz) else (lv + 1, 1)
namespace Tr
noncomputable def key? : Tr → List Int
  | nil => []
  | node _ k _ => [k]
noncomputable def mark (room : Int) : Tr → Int × Int
  | nil => (0, 0)
  | node l _ r => ruleM ((match l with | nil => [] | node .. => [l.mark room]) ++ (match r with | nil => [] | node .. => [r.mark room])) room
noncomputable def mk1 (room : Int) (t : Tr) : List (Int × Int) := match t with
  | nil => []
  | node .. => [t.mark room]
theorem mark_node (room : Int) (l : Tr) (k : Int) (r : Tr) : (node l k r).mark room = ruleM (l.mk1 room ++ r.mk1 room) room := by
  cases l <;> cases r <;> rfl
noncomputable def wk : Tr → List (Int × List Int)
  | nil => []
  | node l k r => l.wk ++ r.wk ++ [(k, l.key? ++ r.key?)]
noncomputable def pt (room : Int) : Tr → List (Int × Int × Int)
  | nil => []
  | node l k r => l.pt room ++ r.pt room ++ [(k, (node l k r).mark room)]
noncomputable def io (room : Int) : Tr → List (Int × Int × Int)
  | nil => []
  | node l k r => l.io room ++ [(k, (node l k r).mark room)] ++ r.io room
theorem io_keys (room : Int) : ∀ t : Tr, (t.io room).map (·.1) = t.keys
  | nil => rfl
  | node l k r => by simp [io, keys, io_keys room l, io_keys room r]
theorem io_pt (room : Int) : ∀ (t : Tr) (e : Int × Int × Int), e ∈ t.io room → e ∈ t.pt room
  | nil, e, h => h
  | node l k r, e, h => by
    simp only [io, pt, List.mem_append, List.mem_singleton] at h ⊢
    rcases h with (h | h) | h
    · exact .inl (.inl (io_pt room l e h))
    · exact .inr h
    · exact .inl (.inr (io_pt room r e h))
theorem pt_perm (room : Int) : ∀ t : Tr, ((t.pt room).map (·.1)).Perm t.keys
  | nil => .refl _
  | node l k r => by
    simp only [pt, keys, List.map_append, List.map_cons, List.map_nil]
    have h1 := pt_perm room l
    have h2 := pt_perm room r
    have h3 : ((l.pt room).map (·.1) ++ (r.pt room).map (·.1) ++ [k]).Perm (l.keys ++ r.keys ++ [k]) := (h1.append h2).append_right _
    refine h3.trans ?_
    rw [List.append_assoc, List.append_assoc]
    exact List.Perm.append_left _ List.perm_append_comm
theorem wk_length : ∀ t : Tr, t.wk.length = t.size
  | nil => rfl
  | node l k r => by simp only [wk, List.length_append, List.length_singleton, wk_length l, wk_length r, size]; lia
end Tr
noncomputable abbrev Tab := List (Int × Int × Int)
noncomputable def look (tb : Tab) (k : Int) : Option (Int × Int) := (tb.find? fun e => decide (e.1 = k)).map (·.2)
theorem look_mem : ∀ {tb : Tab} {k : Int} {m : Int × Int}, (tb.map (·.1)).Nodup → (k, m) ∈ tb → look tb k = some m
  | [], k, m, _, h => by simp at h
  | e :: r, k, m, hn, h => by
    obtain ⟨h1, h2⟩ := List.nodup_cons.mp (show (e.1 :: r.map (·.1)).Nodup from hn)
    unfold look
    rw [List.find?_cons]
    rcases List.mem_cons.mp h with e1 | h'
    · subst e1; simp
    · have hne : ¬ e.1 = k := fun z => h1 (by rw [z]; exact List.mem_map.mpr ⟨_, h', rfl⟩)
      simp only [hne, decide_false]
      exact look_mem h2 h'
noncomputable def stepT (room : Int) (tb : Tab) (e : Int × List Int) : Tab := tb ++ [(e.1, ruleM (e.2.filterMap (look tb)) room)]
namespace Tr
theorem key_mark (room : Int) (t : Tr) (k : Int) (h : k ∈ t.key?) : (k, t.mark room) ∈ t.pt room := by
  cases t with
  | nil => simp [key?] at h
  | node l x r => simp [key?] at h; subst h; simp [pt]
theorem kids_look (room : Int) (t : Tr) {tb : Tab} (hn : (tb.map (·.1)).Nodup) (hs : ∀ e ∈ t.pt room, e ∈ tb) : t.key?.filterMap (look tb) = t.mk1 room := by
  cases t with
  | nil => rfl
  | node l x r =>
    have : look tb x = some ((node l x r).mark room) := look_mem hn (hs _ (key_mark room _ x (by simp [key?])))
    simp [key?, mk1, this]
theorem fold_wk (room : Int) : ∀ (t : Tr) (tb : Tab), ((tb ++ t.pt room).map (·.1)).Nodup → t.wk.foldl (stepT room) tb = tb ++ t.pt room
  | nil, tb, _ => by simp [wk, pt]
  | node l k r, tb, h => by
    rw [pt, ← List.append_assoc, ← List.append_assoc] at h
    have h3 : ((tb ++ l.pt room ++ r.pt room).map (·.1)).Nodup := by
      rw [List.map_append] at h
      exact (List.nodup_append.mp h).1
    have h2 : ((tb ++ l.pt room).map (·.1)).Nodup := by
      rw [List.map_append] at h3
      exact (List.nodup_append.mp h3).1
    rw [wk, List.foldl_append, List.foldl_append, fold_wk room l tb h2, fold_wk room r _ h3, List.foldl_cons, List.foldl_nil]
    unfold stepT
    rw [List.filterMap_append, kids_look room l h3 (fun e he => by simp [he]), kids_look room r h3 (fun e he => by simp [he]), ← mark_node room l k r, pt]
    simp [List.append_assoc]
theorem wk_keys (room : Int) : ∀ t : Tr, t.wk.map (·.1) = (t.pt room).map (·.1)
  | nil => rfl
  | node l k r => by simp [wk, pt, wk_keys room l, wk_keys room r]
theorem pt_nodup (room : Int) {t : Tr} (h : t.keys.Nodup) : ((t.pt room).map (·.1)).Nodup := (pt_perm room t).nodup_iff.mpr h
end Tr
theorem step_keys (room : Int) : ∀ (w : List (Int × List Int)) (tb : Tab), (w.foldl (stepT room) tb).map (·.1) = tb.map (·.1) ++ w.map (·.1)
  | [], tb => by simp
  | e :: r, tb => by rw [List.foldl_cons, step_keys room r]; simp [stepT]
noncomputable def Ahead : List (Int × List Int) → List Int → Prop
  | [], _ => True
  | e :: r, seen => (∀ k ∈ e.2, k ∈ seen) ∧ Ahead r (seen ++ [e.1])
theorem ahead_append : ∀ (a b : List (Int × List Int)) (seen : List Int), Ahead (a ++ b) seen ↔ Ahead a seen ∧ Ahead b (seen ++ a.map (·.1))
  | [], b, seen => by simp [Ahead]
  | e :: r, b, seen => by
    rw [List.cons_append, Ahead, Ahead, ahead_append r b, List.map_cons]
    simp [List.append_assoc, and_assoc]
theorem ahead_mono : ∀ (a : List (Int × List Int)) (s s' : List Int), (∀ x ∈ s, x ∈ s') → Ahead a s → Ahead a s'
  | [], _, _, _, _ => trivial
  | e :: r, s, s', h, ⟨h1, h2⟩ => ⟨fun k hk => h k (h1 k hk), ahead_mono r _ _ (fun x hx => by
      rcases List.mem_append.mp hx with q | q
      · exact List.mem_append_left _ (h x q)
      · exact List.mem_append_right _ q) h2⟩
theorem Tr.wk_ahead : ∀ t : Tr, Ahead t.wk []
  | .nil => trivial
  | .node l k r => by
    rw [Tr.wk, ahead_append, ahead_append]
    refine ⟨⟨Tr.wk_ahead l, ahead_mono _ _ _ (by simp) (Tr.wk_ahead r)⟩, ?_, trivial⟩
    intro x hx
    have key : ∀ t : Tr, ∀ x ∈ t.key?, x ∈ t.wk.map (·.1) := by
      intro t x hx
      cases t with
      | nil => simp [Tr.key?] at hx
      | node l x r => simp [Tr.key?] at hx; subst hx; simp [Tr.wk]
    simp only [List.mem_append] at hx
    simp only [List.map_append, List.nil_append, List.mem_append]
    rcases hx with hx | hx
    · exact .inl (key l x hx)
    · exact .inr (key r x hx)
theorem ahead_at : ∀ (w : List (Int × List Int)) (seen : List Int) (i : Nat) (e : Int × List Int), Ahead w seen → w[i]? = some e → ∀ k ∈ e.2, k ∈ seen ++ (w.take i).map (·.1)
  | [], _, i, e, _, h => by simp at h
  | x :: r, seen, 0, e, ⟨h1, _⟩, h => by simp at h; subst h; intro k hk; simpa using h1 k hk
  | x :: r, seen, i + 1, e, ⟨_, h2⟩, h => by
    intro k hk
    have := ahead_at r (seen ++ [x.1]) i e h2 (by simpa using h) k hk
    simpa [List.append_assoc] using this
theorem Tr.wk_small : ∀ (t : Tr) (e : Int × List Int), e ∈ t.wk → e.2.length ≤ 2
  | .nil, e, h => by simp [Tr.wk] at h
  | .node l k r, e, h => by
    simp only [Tr.wk, List.mem_append, List.mem_singleton] at h
    rcases h with (h | h) | h
    · exact Tr.wk_small l e h
    · exact Tr.wk_small r e h
    · subst h
      have : ∀ t : Tr, t.key?.length ≤ 1 := fun t => by cases t <;> simp [Tr.key?]
      have h1 := this l
      have h2 := this r
      simp only [List.length_append]
      lia
noncomputable def Tr.sub (t : Tr) : List Tr := match t with
  | .nil => []
  | .node .. => [t]
end L3
namespace L3
open PySem L2
noncomputable def PenAt (H : Hp) (p : Addr) : Prop := ∃ m n, H p = some (.lst [.int m, .int n])
theorem PenAt.mono {H H' : Hp} {p : Addr} (h : PenAt H p) (s : Same H H') : PenAt H' p := by
  obtain ⟨m, n, e⟩ := h
  exact ⟨m, n, s _ _ e⟩
theorem PenAt.ne {H : Hp} {p l : Addr} (h : PenAt H p) (e : H l = none) : l ≠ p := by
  obtain ⟨m, n, q⟩ := h
  intro z
  rw [z, q] at e; cases e
noncomputable def vO : Option Int → V
  | none => .non
  | some i => .int i
theorem rep_node {H : Hp} {v : V} {l r : Tr} {k : Int} (h : Rep H v (Tr.node l k r).d) : ∃ a vl vr, v = .ref a ∧ H a = some (.tup [vl, .int k, vr]) ∧ Rep H vl l.d ∧ Rep H vr r.d := by
  cases h with
  | @tup a vs xs e rs =>
    cases rs with
    | cons h1 r1 =>
      cases r1 with
      | cons h2 r2 =>
        cases r2 with
        | cons h3 r3 =>
          cases r3
          cases h2
          exact ⟨a, _, _, rfl, e, h1, h3⟩
theorem rep_nil {H : Hp} {v : V} (h : Rep H v Tr.nil.d) : v = .non := by cases h; rfl
theorem rep_mk {H : Hp} {a : Addr} {vl vr : V} {k : Int} {l r : D} (e : H a = some (.tup [vl, .int k, vr])) (h1 : Rep H vl l) (h2 : Rep H vr r) : Rep H (.ref a) (.tup [l, .int k, r]) := .tup e (.cons h1 (.cons (.int k) (.cons h2 .nil)))
theorem rep_tup {H : Hp} {v : V} {xs : List D} (h : Rep H v (.tup xs)) : ∃ a vs, v = .ref a ∧ H a = some (.tup vs) ∧ Reps H vs xs := by
  cases h with
  | tup e r => exact ⟨_, _, rfl, e, r⟩
theorem rep_rm {H : Hp} {p : Addr} {vs : List V} (hp : H p = some (.lst vs)) : ∀ (t : Tr) {v : V}, Rep H v t.d → Rep (rm p H) v t.d
  | .nil, v, h => by cases rep_nil h; exact .non
  | .node l k r, v, h => by
    obtain ⟨a, vl, vr, rfl, ea, hl, hr⟩ := rep_node h
    exact rep_mk (by rw [rm_ne (fun z => by rw [z, hp] at ea; cases ea)]; exact ea) (rep_rm hp l hl) (rep_rm hp r hr)
theorem pures_ints : ∀ ns : List Int, pures (ns.map D.int) = true
  | [] => rfl
  | n :: r => by rw [List.map_cons, pures, pures_ints r]; rfl
theorem deps_ints : ∀ ns : List Int, deps (ns.map D.int) = 0
  | [] => rfl
  | n :: r => by rw [List.map_cons, deps, deps_ints r]; rfl
theorem rep_ints {H : Hp} {a : Addr} {ns : List Int} (h : H a = some (.lst (ns.map V.int))) : Rep H (.ref a) (.lst (ns.map D.int)) := .lst h (Reps.ints ns)
theorem cut_hi (xs : List V) (k : Nat) : cutV xs none (some (k : Int)) = xs.take k := by
  unfold cutV
  rw [HT.sIx_none, HT.sIx_nat, List.drop_zero, Nat.sub_zero]
  rcases Nat.le_total k xs.length with h | h
  · rw [Nat.min_eq_left h]
  · rw [Nat.min_eq_right h, List.take_length, List.take_of_length_le h]
theorem cut_lo (xs : List V) (k : Nat) : cutV xs (some (k : Int)) none = xs.drop k := by
  unfold cutV
  rw [HT.sIx_none, HT.sIx_nat]
  rw [List.take_of_length_le (by rw [List.length_drop]; lia)]
  rcases Nat.le_total k xs.length with h | h
  · rw [Nat.min_eq_left h]
  · rw [Nat.min_eq_right h, List.drop_length, List.drop_eq_nil_of_le h]
end L3
namespace L3
open PySem L2
inductive DT (H : Hp) : List (Key × V) → Tab → Prop where
  | nil : DT H [] []
  | cons {k lv sz : Int} {b : Addr} {kvs : List (Key × V)} {tb : Tab} : H b = some (.tup [.int lv, .int sz]) → DT H kvs tb → DT H ((Sum.inl k, .ref b) :: kvs) ((k, lv, sz) :: tb)
theorem DT.mono {H H' : Hp} {kvs : List (Key × V)} {tb : Tab} (h : DT H kvs tb) (s : Same H H') : DT H' kvs tb := by
  induction h with
  | nil => exact .nil
  | cons e _ ih => exact .cons (s _ _ e) ih
theorem DT.upd {H : Hp} {kvs : List (Key × V)} {tb : Tab} {d : Addr} {o o' : HO} (h : DT H kvs tb) (hd : H d = some o) (ho : ∀ vs, o ≠ .tup vs) : DT (L2.upd H d o') kvs tb := by
  induction h with
  | nil => exact .nil
  | cons e _ ih =>
    refine .cons ?_ ih
    rw [upd_ne (fun z => by rw [z, hd] at e; exact ho _ (Option.some.inj e))]
    exact e
theorem DT.length {H : Hp} {kvs : List (Key × V)} {tb : Tab} (h : DT H kvs tb) : kvs.length = tb.length := by
  induction h with
  | nil => rfl
  | cons _ _ ih => rw [List.length_cons, List.length_cons, ih]
theorem DT.append {H : Hp} {a b : List (Key × V)} {s t : Tab} (h : DT H a s) (h' : DT H b t) : DT H (a ++ b) (s ++ t) := by
  induction h with
  | nil => exact h'
  | cons e _ ih => exact .cons e ih
theorem DT.val {H : Hp} {kvs : List (Key × V)} {tb : Tab} (h : DT H kvs tb) {k : Int} {m : Int × Int} (e : look tb k = some m) : ∃ b, valV kvs (Sum.inl k : Key) = some (.ref b) ∧ H b = some (.tup [.int m.1, .int m.2]) := by
  induction h with
  | nil => simp [look] at e
  | @cons k' lv sz b kvs tb eb _ ih =>
    unfold look at e
    rw [List.find?_cons] at e
    by_cases hk : k' = k
    · subst hk
      simp at e
      subst e
      exact ⟨b, valV_pos rfl, eb⟩
    · simp only [hk, decide_false] at e
      obtain ⟨b', h1, h2⟩ := ih e
      exact ⟨b', by rw [valV_neg (by simpa using hk)]; exact h1, h2⟩
theorem DT.none {H : Hp} {kvs : List (Key × V)} {tb : Tab} (h : DT H kvs tb) {k : Int} (hk : k ∉ tb.map (·.1)) : valV kvs (Sum.inl k : Key) = Option.none := by
  induction h with
  | nil => rfl
  | @cons k' lv sz b kvs tb eb _ ih =>
    simp only [List.map_cons, List.mem_cons, not_or] at hk
    rw [valV_neg (by simpa using fun z => hk.1 z.symm)]
    exact ih hk.2
theorem DT.put {H : Hp} {kvs : List (Key × V)} {tb : Tab} (h : DT H kvs tb) {k lv sz : Int} {b : Addr} (hk : k ∉ tb.map (·.1)) (eb : H b = some (.tup [.int lv, .int sz])) : DT H (putK kvs (Sum.inl k : Key) (.ref b)) (tb ++ [(k, lv, sz)]) := by
  rw [putK_new _ (h.none hk)]
  exact h.append (.cons eb .nil)
theorem DT.merge {H : Hp} : ∀ {more : List (Key × V)} {t : Tab} {kvs : List (Key × V)} {s : Tab}, DT H more t → DT H kvs s → ((s ++ t).map (·.1)).Nodup → DT H (mergeK kvs more) (s ++ t) := by
  intro more t kvs s h
  induction h generalizing kvs s with
  | nil => intro h' _; simpa [mergeK] using h'
  | @cons k lv sz b kvs' tb eb _ ih =>
    intro h' hn
    have hn' : ((s ++ [(k, lv, sz)] ++ tb).map (·.1)).Nodup := by simpa using hn
    have hk : k ∉ s.map (·.1) := by
      rw [List.map_append, List.nodup_append] at hn
      intro hm
      exact hn.2.2 k hm k (by simp) rfl
    have := ih (h'.put hk eb) hn'
    simpa [mergeK] using this
noncomputable def pairD (m : Int × Int) : D := .tup [.int m.1, .int m.2]
noncomputable def rowD (e : Int × Int × Int) : D := .tup [.int e.1, .int e.2.1, .int e.2.2]
noncomputable def kidD (e : Int × List Int) : D := .tup [.int e.1, .lst (e.2.map D.int)]
theorem rep_lst {H : Hp} {v : V} {xs : List D} (h : Rep H v (.lst xs)) : ∃ a vs, v = .ref a ∧ H a = some (.lst vs) ∧ Reps H vs xs := by
  cases h with
  | lst e r => exact ⟨_, _, rfl, e, r⟩
theorem rep_int {H : Hp} {v : V} {i : Int} (h : Rep H v (.int i)) : v = .int i := by cases h; rfl
theorem rep_pair {H : Hp} {v : V} {m : Int × Int} (h : Rep H v (pairD m)) : ∃ b, v = .ref b ∧ H b = some (.tup [.int m.1, .int m.2]) := by
  obtain ⟨a, vs, rfl, e, rs⟩ := rep_tup h
  cases rs with
  | cons h1 rs =>
    cases rs with
    | cons h2 rs =>
      cases rs
      cases rep_int h1
      cases rep_int h2
      exact ⟨a, rfl, e⟩
theorem pair_rep {H : Hp} {b : Addr} {m : Int × Int} (h : H b = some (.tup [.int m.1, .int m.2])) : Rep H (.ref b) (pairD m) := .tup h (.cons (.int _) (.cons (.int _) .nil))
theorem reps_ints : ∀ {H : Hp} {vs : List V} {ns : List Int}, Reps H vs (ns.map D.int) → vs = ns.map V.int
  | _, [], [], .nil => rfl
  | H, _, n :: r, h => by
    cases h with
    | cons h1 h2 => rw [rep_int h1, reps_ints h2]; rfl
theorem rep_kid {H : Hp} {v : V} {e : Int × List Int} (h : Rep H v (kidD e)) : ∃ b c, v = .ref b ∧ H b = some (.tup [.int e.1, .ref c]) ∧ H c = some (.lst (e.2.map V.int)) := by
  obtain ⟨a, vs, rfl, ea, rs⟩ := rep_tup h
  cases rs with
  | cons h1 rs =>
    cases rs with
    | cons h2 rs =>
      cases rs
      cases rep_int h1
      obtain ⟨c, ws, rfl, ec, rw'⟩ := rep_lst h2
      rw [reps_ints rw'] at ec
      exact ⟨a, c, rfl, ea, ec⟩
theorem reps_map {H : Hp} {α : Type} {f : α → D} : ∀ {vs : List V} {xs : List α} {i : Nat} {v : V}, Reps H vs (xs.map f) → vs[i]? = some v → ∃ x, xs[i]? = some x ∧ Rep H v (f x) := by
  intro vs xs i v h e
  obtain ⟨d, h1, h2⟩ := h.get e
  rw [List.getElem?_map] at h1
  obtain ⟨x, hx, rfl⟩ := Option.map_eq_some_iff.mp h1
  exact ⟨x, hx, h2⟩
mutual
/-- data without a dict stand apart from a dict -/
theorem Rep.apart {H : Hp} {d : Addr} {kvs : List (Key × V)} (hd : H d = some (.dK kvs)) {v : V} {e : D} : Rep H v e → e.pure = true → Rep (rm d H) v e
  | .non => fun _ => .non
  | .bl b => fun _ => .bl b
  | .int i => fun _ => .int i
  | .str x => fun _ => .str x
  | .tup (a := a) ea r => fun h => .tup (by rw [rm_ne (fun z => by rw [z, hd] at ea; cases ea)]; exact ea) (Reps.apart hd r (by rw [D.pure] at h; exact h))
  | .lst (a := a) ea r => fun h => .lst (by rw [rm_ne (fun z => by rw [z, hd] at ea; cases ea)]; exact ea) (Reps.apart hd r (by rw [D.pure] at h; exact h))
  | .emp _ => fun h => by rw [D.pure] at h; cases h
theorem Reps.apart {H : Hp} {d : Addr} {kvs : List (Key × V)} (hd : H d = some (.dK kvs)) {vs : List V} {es : List D} : Reps H vs es → pures es = true → Reps (rm d H) vs es
  | .nil => fun _ => .nil
  | .cons h r => fun q => by
    rw [pures, Bool.and_eq_true] at q
    exact .cons (Rep.apart hd h q.1) (Reps.apart hd r q.2)
end
theorem pures_map {α : Type} {f : α → D} (hf : ∀ x, (f x).pure = true) : ∀ xs : List α, pures (xs.map f) = true
  | [] => rfl
  | x :: r => by rw [List.map_cons, pures, hf x, pures_map hf r]; rfl
theorem pure_pair (m : Int × Int) : (pairD m).pure = true := rfl
theorem pure_row (e : Int × Int × Int) : (rowD e).pure = true := rfl
theorem pure_kid (e : Int × List Int) : (kidD e).pure = true := by
  show (true && (pures (e.2.map D.int) && true)) = true
  rw [pures_ints]; rfl
end L3
namespace K43C
open PySem L2 L3
noncomputable def lv (tb : Tab) (k : Int) : Int := ((look tb k).getD (0, 0)).1
noncomputable def tP (tb : Tab) (w : List (Int × List Int)) : List (Int × Int) := w.flatMap fun e => (e.2.filter fun c => decide (lv tb c = lv tb e.1)).map fun c => (e.1, c)
noncomputable def mx0 (ks : List (Int × Int)) : Int := maxI (0 :: ks.map (·.1))
noncomputable def sz0 (ks : List (Int × Int)) : Int := 1 + ((ks.filter fun p => decide (p.1 = mx0 ks)).map (·.2)).sum
noncomputable def own (room : Int) (tb : Tab) (l : Tr) (k : Int) (r : Tr) : List (Int × Int) :=
  if sz0 (l.mk1 room ++ r.mk1 room) ≤ room then ((l.key? ++ r.key?).filter fun c => decide (lv tb c = mx0 (l.mk1 room ++ r.mk1 room))).map fun c => (k, c) else []
theorem maxI_in : ∀ (l : List Int), l ≠ [] → maxI l ∈ l ∧ ∀ x ∈ l, x ≤ maxI l
  | [], h => absurd rfl h
  | [a], _ => by simp [maxI]
  | a :: b :: r, _ => by
    obtain ⟨h1, h2⟩ := maxI_in (b :: r) (by simp)
    have e : maxI (a :: b :: r) = max a (maxI (b :: r)) := rfl
    rw [e]
    constructor
    · rcases Int.le_total a (maxI (b :: r)) with h | h
      · rw [Int.max_eq_right h]; exact .tail _ h1
      · rw [Int.max_eq_left h]; exact .head _
    · intro x hx
      rcases List.mem_cons.mp hx with rfl | hx
      · lia
      · have := h2 x hx; lia
theorem rule_pos {room : Int} {ks : List (Int × Int)} (h : ∀ p ∈ ks, 1 ≤ p.1) : 1 ≤ (ruleM ks room).1 := by
  unfold ruleM
  by_cases e : ks = []
  · rw [if_pos e]; decide
  · rw [if_neg e]
    have hm := (maxI_in (ks.map (·.1)) (by simpa using e)).1
    obtain ⟨p, hp, hq⟩ := List.mem_map.mp hm
    have := h p hp
    dsimp only
    split
    · show 1 ≤ maxI _; lia
    · show 1 ≤ maxI _ + 1; lia
theorem mark_pos (room : Int) : ∀ t : Tr, ∀ p ∈ t.mk1 room, 1 ≤ p.1
  | .nil, p, h => by simp [Tr.mk1] at h
  | .node l k r, p, h => by
    rw [Tr.mk1, List.mem_singleton] at h
    subst h
    rw [Tr.mark_node]
    refine rule_pos fun p hp => ?_
    rcases List.mem_append.mp hp with h | h
    · exact mark_pos room l p h
    · exact mark_pos room r p h
theorem tP_append (tb : Tab) (a b : List (Int × List Int)) : tP tb (a ++ b) = tP tb a ++ tP tb b := by simp [tP]
theorem kid_count : ∀ t : Tr, (t.wk.map fun e => e.2.length).sum + t.key?.length = t.size
  | .nil => rfl
  | .node l k r => by
    have h1 := kid_count l
    have h2 := kid_count r
    simp only [Tr.wk, List.map_append, List.map_cons, List.map_nil, List.sum_append, List.sum_cons, List.sum_nil, List.length_append, Tr.key?, List.length_singleton, Tr.size]
    simp only [Tr.key?] at h1 h2 ⊢
    lia
theorem tP_short (tb : Tab) : ∀ w : List (Int × List Int), (tP tb w).length ≤ (w.map fun e => e.2.length).sum
  | [] => Nat.le_refl _
  | e :: w => by
    have := tP_short tb w
    have h2 := List.length_filter_le (fun c => decide (lv tb c = lv tb e.1)) e.2
    have e1 : tP tb (e :: w) = ((e.2.filter fun c => decide (lv tb c = lv tb e.1)).map fun c => (e.1, c)) ++ tP tb w := by simp [tP]
    rw [e1, List.length_append, List.length_map, List.map_cons, List.sum_cons]
    lia
theorem tie_len (tb : Tab) (t : Tr) : (tP tb t.wk).length ≤ t.size := by
  have := tP_short tb t.wk
  have := kid_count t
  lia
noncomputable def prs (p : Int × Int) : List Int := [p.1, p.2]
noncomputable def ownS (room : Int) (l : Tr) (k : Int) (r : Tr) : List (Int × Int) := ((l.sub ++ r.sub).filter fun u => decide ((u.mark room).1 = ((Tr.node l k r).mark room).1)).flatMap fun u => u.key?.map fun c => (k, c)
noncomputable def tS (room : Int) : Tr → List (Int × Int)
  | .nil => []
  | .node l k r => tS room l ++ tS room r ++ ownS room l k r
theorem lv_key (room : Int) {tb : Tab} (hn : (tb.map (·.1)).Nodup) {l r : Tr} {k : Int} (hs : ∀ e ∈ (Tr.node l k r).pt room, e ∈ tb) : lv tb k = ((Tr.node l k r).mark room).1 := by
  have : look tb k = some ((Tr.node l k r).mark room) := look_mem hn (hs _ (Tr.key_mark room _ k (by simp [Tr.key?])))
  unfold lv; rw [this]; rfl
theorem side_own (room : Int) {tb : Tab} (hn : (tb.map (·.1)).Nodup) {u : Tr} {k M : Int} (hs : ∀ e ∈ u.pt room, e ∈ tb) :
    (u.key?.filter fun c => decide (lv tb c = M)).map (fun c => (k, c)) = (u.sub.filter fun v => decide ((v.mark room).1 = M)).flatMap fun v => v.key?.map fun c => (k, c) := by
  cases u with
  | nil => rfl
  | node l x r =>
    have h := lv_key room hn hs
    by_cases e : ((Tr.node l x r).mark room).1 = M
    · simp [Tr.key?, Tr.sub, h, e]
    · simp [Tr.key?, Tr.sub, h, e]
theorem tP_tS (room : Int) {tb : Tab} (hn : (tb.map (·.1)).Nodup) : ∀ t : Tr, (∀ e ∈ t.pt room, e ∈ tb) → tP tb t.wk = tS room t
  | .nil, _ => rfl
  | .node l k r, hs => by
    have hl : ∀ e ∈ l.pt room, e ∈ tb := fun e he => hs e (by simp [Tr.pt, he])
    have hr : ∀ e ∈ r.pt room, e ∈ tb := fun e he => hs e (by simp [Tr.pt, he])
    rw [Tr.wk, tP_append, tP_append, tP_tS room hn l hl, tP_tS room hn r hr, tS]
    congr 1
    have e1 : tP tb [(k, l.key? ++ r.key?)] = ((l.key? ++ r.key?).filter fun c => decide (lv tb c = lv tb k)).map fun c => (k, c) := by simp [tP]
    rw [e1, lv_key room hn hs, List.filter_append, List.map_append, side_own room hn hl, side_own room hn hr]
    unfold ownS
    rw [List.filter_append, List.flatMap_append]
end K43C
namespace K43C
open PySem L2 L3
noncomputable def tie (room : Int) (l : Tr) (k : Int) (r u : Tr) : Bool := decide ((u.mark room).1 = ((Tr.node l k r).mark room).1)
noncomputable def hd (room : Int) : Tr → List Int
  | .nil => []
  | .node l k r => k :: ((if tie room l k r l then hd room l else []) ++ (if tie room l k r r then hd room r else []))
noncomputable def er (room : Int) : Tr → List (Int × List Int)
  | .nil => []
  | .node l k r => (er room l ++ (if tie room l k r l then [] else l.key?.map fun c => (c, hd room l))) ++ (er room r ++ (if tie room l k r r then [] else r.key?.map fun c => (c, hd room r)))
noncomputable def en (room : Int) (t : Tr) : List (Int × List Int) := er room t ++ t.key?.map fun c => (c, hd room t)
noncomputable def tdS (room : Int) : Tr → List Int
  | .nil => []
  | .node l k r => tdS room l ++ tdS room r ++ ((if tie room l k r l then l.key? else []) ++ (if tie room l k r r then r.key? else []))
theorem tS_tdS (room : Int) : ∀ t : Tr, (tS room t).map (·.2) = tdS room t
  | .nil => rfl
  | .node l k r => by
    rw [tS, tdS, List.map_append, List.map_append, tS_tdS room l, tS_tdS room r]
    congr 1
    have side : ∀ u : Tr, (((u.sub.filter fun v => decide ((v.mark room).1 = ((Tr.node l k r).mark room).1)).flatMap fun v => v.key?.map fun c => (k, c)).map (·.2)) = if tie room l k r u then u.key? else [] := by
      intro u
      cases u with
      | nil => simp [Tr.sub, Tr.key?]
      | node a b c =>
        by_cases h : ((Tr.node a b c).mark room).1 = ((Tr.node l k r).mark room).1
        · simp [Tr.sub, Tr.key?, tie, h]
        · simp [Tr.sub, Tr.key?, tie, h]
    unfold ownS
    rw [List.filter_append, List.flatMap_append, List.map_append, side l, side r]
noncomputable def TdOk (room : Int) (td : List Int) : Tr → Prop
  | .nil => True
  | .node l k r => (∀ c ∈ l.key?, (c ∈ td ↔ tie room l k r l = true)) ∧ (∀ c ∈ r.key?, (c ∈ td ↔ tie room l k r r = true)) ∧ TdOk room td l ∧ TdOk room td r
noncomputable def blw : Tr → List Int
  | .nil => []
  | .node l _ r => l.keys ++ r.keys
theorem key_keys (t : Tr) : ∀ c ∈ t.key?, c ∈ t.keys := by
  cases t with
  | nil => intro c h; simp [Tr.key?] at h
  | node l k r => intro c h; simp [Tr.key?] at h; subst h; simp [Tr.keys]
theorem blw_keys (t : Tr) : ∀ c ∈ blw t, c ∈ t.keys := by
  cases t with
  | nil => intro c h; simp [blw] at h
  | node l k r => intro c h; simp only [blw, List.mem_append] at h; simp only [Tr.keys, List.mem_append, List.mem_singleton]; rcases h with h | h <;> simp [h]
theorem tdS_blw (room : Int) : ∀ (t : Tr) (c : Int), c ∈ tdS room t → c ∈ blw t
  | .nil, c, h => by simp [tdS] at h
  | .node l k r, c, h => by
    simp only [tdS, List.mem_append] at h
    simp only [blw, List.mem_append]
    rcases h with (h | h) | h | h
    · exact .inl (blw_keys l c (tdS_blw room l c h))
    · exact .inr (blw_keys r c (tdS_blw room r c h))
    · split at h
      · exact .inl (key_keys l c h)
      · cases h
    · split at h
      · exact .inr (key_keys r c h)
      · cases h
theorem nd_node {l r : Tr} {k : Int} (h : (Tr.node l k r).keys.Nodup) : l.keys.Nodup ∧ r.keys.Nodup ∧ k ∉ l.keys ∧ k ∉ r.keys ∧ ∀ c ∈ l.keys, c ∉ r.keys := by
  rw [Tr.keys, List.append_assoc, List.nodup_append] at h
  obtain ⟨h1, h2, h3⟩ := h
  rw [List.singleton_append, List.nodup_cons] at h2
  exact ⟨h1, h2.2, fun hk => h3 k hk k (by simp) rfl, h2.1, fun c hc hr => h3 c hc c (by simp [hr]) rfl⟩
theorem key_blw {t : Tr} (h : t.keys.Nodup) : ∀ c ∈ t.key?, c ∉ blw t := by
  cases t with
  | nil => intro c hc; simp [Tr.key?] at hc
  | node l k r =>
    intro c hc
    simp [Tr.key?] at hc
    subst hc
    obtain ⟨_, _, h3, h4, _⟩ := nd_node h
    simp [blw, h3, h4]
theorem tdOk_of (room : Int) (td : List Int) : ∀ t : Tr, t.keys.Nodup → (∀ c ∈ blw t, (c ∈ td ↔ c ∈ tdS room t)) → TdOk room td t
  | .nil, _, _ => trivial
  | .node l k r, hn, h => by
    obtain ⟨n1, n2, n3, n4, n5⟩ := nd_node hn
    have own_l : ∀ c, c ∈ (if tie room l k r l = true then l.key? else []) ↔ (c ∈ l.key? ∧ tie room l k r l = true) := fun c => by split <;> simp [*]
    have own_r : ∀ c, c ∈ (if tie room l k r r = true then r.key? else []) ↔ (c ∈ r.key? ∧ tie room l k r r = true) := fun c => by split <;> simp [*]
    have inv : ∀ c, c ∈ tdS room (.node l k r) ↔ (c ∈ tdS room l ∨ c ∈ tdS room r ∨ (c ∈ l.key? ∧ tie room l k r l = true) ∨ (c ∈ r.key? ∧ tie room l k r r = true)) := fun c => by
      simp only [tdS, List.mem_append, own_l, own_r]
      constructor
      · rintro ((h | h) | h | h)
        · exact .inl h
        · exact .inr (.inl h)
        · exact .inr (.inr (.inl h))
        · exact .inr (.inr (.inr h))
      · rintro (h | h | h | h)
        · exact .inl (.inl h)
        · exact .inl (.inr h)
        · exact .inr (.inl h)
        · exact .inr (.inr h)
    refine ⟨fun c hc => ?_, fun c hc => ?_, tdOk_of room td l n1 fun c hc => ?_, tdOk_of room td r n2 fun c hc => ?_⟩
    · have hcl := key_keys l c hc
      rw [h c (by simp [blw, hcl]), inv]
      constructor
      · rintro (h | h | h | h)
        · exact absurd (tdS_blw room l c h) (key_blw n1 c hc)
        · exact absurd (blw_keys r c (tdS_blw room r c h)) (n5 c hcl)
        · exact h.2
        · exact absurd (key_keys r c h.1) (n5 c hcl)
      · exact fun h => .inr (.inr (.inl ⟨hc, h⟩))
    · have hcr := key_keys r c hc
      rw [h c (by simp [blw, hcr]), inv]
      constructor
      · rintro (h | h | h | h)
        · exact absurd hcr (n5 c (blw_keys l c (tdS_blw room l c h)))
        · exact absurd (tdS_blw room r c h) (key_blw n2 c hc)
        · exact absurd hcr (n5 c (key_keys l c h.1))
        · exact h.2
      · exact fun h => .inr (.inr (.inr ⟨hc, h⟩))
    · have hcl := blw_keys l c hc
      rw [h c (by simp [blw, hcl]), inv]
      constructor
      · rintro (h | h | h | h)
        · exact h
        · exact absurd (blw_keys r c (tdS_blw room r c h)) (n5 c hcl)
        · exact absurd hc (key_blw n1 c h.1)
        · exact absurd (key_keys r c h.1) (n5 c hcl)
      · exact fun h => .inl h
    · have hcr := blw_keys r c hc
      rw [h c (by simp [blw, hcr]), inv]
      constructor
      · rintro (h | h | h | h)
        · exact absurd hcr (n5 c (blw_keys l c (tdS_blw room l c h)))
        · exact h
        · exact absurd hcr (n5 c (key_keys l c h.1))
        · exact absurd hc (key_blw n2 c h.1)
      · exact fun h => .inr (.inl h)
noncomputable abbrev PTab := List (Int × List Int)
noncomputable def lkP (D : PTab) (c : Int) : List Int := ((D.find? fun e => decide (e.1 = c)).map (·.2)).getD []
noncomputable def stK (td : List Int) (x : PTab × List Int) (c : Int) : PTab × List Int := if c ∈ td then (x.1.filter (fun e => decide (e.1 ≠ c)), x.2 ++ lkP x.1 c) else x
noncomputable def stp (td : List Int) (D : PTab) (e : Int × List Int) : PTab := (e.2.foldl (stK td) (D, [e.1])).1 ++ [(e.1, (e.2.foldl (stK td) (D, [e.1])).2)]
theorem lkP_mid : ∀ {X Y : PTab} {c : Int} {p : List Int}, (∀ e ∈ X, e.1 ≠ c) → lkP (X ++ (c, p) :: Y) c = p
  | [], Y, c, p, _ => by simp [lkP]
  | e :: X, Y, c, p, h => by
    have := lkP_mid (X := X) (Y := Y) (c := c) (p := p) fun e he => h e (.tail _ he)
    unfold lkP at this ⊢
    rw [List.cons_append, List.find?_cons]
    have hne : ¬ e.1 = c := h e (.head _)
    simp only [hne, decide_false]
    exact this
theorem side_key {room : Int} {u : Tr} {b : Bool} {e : Int × List Int} (ih : ∀ e ∈ er room u, e.1 ∈ blw u) (h : e ∈ er room u ++ (if b = true then [] else u.key?.map fun c => (c, hd room u))) : e.1 ∈ u.keys := by
  rcases List.mem_append.mp h with h | h
  · exact blw_keys u _ (ih e h)
  · split at h
    · cases h
    · obtain ⟨c, hc, rfl⟩ := List.mem_map.mp h
      exact key_keys u c hc
theorem er_keys (room : Int) : ∀ (t : Tr) (e : Int × List Int), e ∈ er room t → e.1 ∈ blw t
  | .nil, e, h => by simp [er] at h
  | .node l k r, e, h => by
    rw [er] at h
    simp only [blw, List.mem_append]
    rcases List.mem_append.mp h with h | h
    · exact .inl (side_key (er_keys room l) h)
    · exact .inr (side_key (er_keys room r) h)
theorem en_keys {room : Int} {t : Tr} {e : Int × List Int} (h : e ∈ en room t) : e.1 ∈ t.keys := side_key (b := false) (er_keys room t) (by simpa [en] using h)
theorem stK_side {room : Int} {td : List Int} {X Y : PTab} {u : Tr} {b : Bool} {p : List Int} (hX : ∀ e ∈ X, e.1 ∉ u.key?) (hY : ∀ e ∈ Y, e.1 ∉ u.key?) (hn : u.keys.Nodup) (tu : ∀ c ∈ u.key?, (c ∈ td ↔ b = true)) :
    u.key?.foldl (stK td) (X ++ en room u ++ Y, p) = (X ++ (er room u ++ (if b = true then [] else u.key?.map fun c => (c, hd room u))) ++ Y, p ++ (if b = true then hd room u else [])) := by
  cases u with
  | nil => cases b <;> simp [Tr.key?, en, hd]
  | node l c r =>
    have hc : c ∈ (Tr.node l c r).key? := by simp [Tr.key?]
    have hE : ∀ e ∈ er room (.node l c r), e.1 ≠ c := fun e he z => key_blw hn c hc (by rw [← z]; exact er_keys room _ e he)
    have hX' : ∀ e ∈ X, e.1 ≠ c := fun e he z => hX e he (by simp [Tr.key?, z])
    have hY' : ∀ e ∈ Y, e.1 ≠ c := fun e he z => hY e he (by simp [Tr.key?, z])
    have e1 : (Tr.node l c r).key? = [c] := rfl
    have e2 : X ++ en room (.node l c r) ++ Y = (X ++ er room (.node l c r)) ++ (c, hd room (.node l c r)) :: Y := by simp [en, e1]
    rw [e1, List.foldl_cons, List.foldl_nil, e2]
    unfold stK
    cases b with
    | true =>
      rw [if_pos ((tu c hc).mpr rfl)]
      have f1 : (X ++ er room (.node l c r)).filter (fun e => decide (e.1 ≠ c)) = X ++ er room (.node l c r) := List.filter_eq_self.mpr fun e he => by
        rcases List.mem_append.mp he with he | he
        · exact decide_eq_true (hX' e he)
        · exact decide_eq_true (hE e he)
      have f2 : Y.filter (fun e => decide (e.1 ≠ c)) = Y := List.filter_eq_self.mpr fun e he => decide_eq_true (hY' e he)
      rw [List.filter_append, f1, List.filter_cons, if_neg (by simp), f2, lkP_mid (fun e he => ?_)]
      · simp
      · rcases List.mem_append.mp he with he | he
        · exact hX' e he
        · exact hE e he
    | false =>
      rw [if_neg (fun h => nomatch (tu c hc).mp h)]
      simp [e1]
theorem fold_en (room : Int) (td : List Int) : ∀ (t : Tr) (D : PTab), t.keys.Nodup → TdOk room td t → (∀ e ∈ D, e.1 ∉ t.keys) → t.wk.foldl (stp td) D = D ++ en room t
  | .nil, D, _, _, _ => by simp [Tr.wk, en, er, Tr.key?]
  | .node l k r, D, hn, ht, hD => by
    obtain ⟨n1, n2, n3, n4, n5⟩ := nd_node hn
    obtain ⟨t1, t2, t3, t4⟩ := ht
    have Dl : ∀ e ∈ D, e.1 ∉ l.keys := fun e he h => hD e he (by simp [Tr.keys, h])
    have Dr : ∀ e ∈ D, e.1 ∉ r.keys := fun e he h => hD e he (by simp [Tr.keys, h])
    have hr2 : ∀ e ∈ D ++ en room l, e.1 ∉ r.keys := fun e he => by
      rcases List.mem_append.mp he with he | he
      · exact Dr e he
      · exact n5 _ (en_keys he)
    rw [Tr.wk, List.foldl_append, List.foldl_append, fold_en room td l D n1 t3 Dl, fold_en room td r _ n2 t4 hr2, List.foldl_cons, List.foldl_nil]
    unfold stp
    rw [List.foldl_append]
    rw [stK_side (room := room) (b := tie room l k r l) (X := D) (Y := en room r) (u := l) (p := [k]) (fun e he h => Dl e he (key_keys l _ h)) (fun e he h => n5 _ (key_keys l _ h) (en_keys he)) n1 t1]
    have := stK_side (room := room) (td := td) (b := tie room l k r r) (X := D ++ (er room l ++ (if tie room l k r l = true then [] else l.key?.map fun c => (c, hd room l)))) (Y := []) (u := r) (p := [k] ++ (if tie room l k r l = true then hd room l else [])) (fun e he h => ?_) (fun e he => by cases he) n2 t2
    · rw [List.append_nil, List.append_nil] at this
      rw [this]
      simp [en, er, hd, Tr.key?, List.append_assoc]
    · rcases List.mem_append.mp he with he | he
      · exact Dr e he (key_keys r _ h)
      · exact n5 _ (side_key (er_keys room l) he) (key_keys r _ h)
noncomputable def OkF (td : List Int) : List (Int × List Int) → PTab → Prop
  | [], _ => True
  | e :: w, D => ((∀ c ∈ e.2, c ∈ D.map (·.1)) ∧ e.2.Nodup ∧ e.1 ∉ D.map (·.1) ∧ (D.map (·.1)).Nodup) ∧ OkF td w (stp td D e)
theorem okF_append (td : List Int) : ∀ (a b : List (Int × List Int)) (D : PTab), OkF td a D → OkF td b (a.foldl (stp td) D) → OkF td (a ++ b) D
  | [], b, D, _, h => h
  | e :: a, b, D, h, h' => ⟨h.1, okF_append td a b _ h.2 h'⟩
theorem okF_at (td : List Int) : ∀ (w : List (Int × List Int)) (D : PTab) (i : Nat) (e : Int × List Int), OkF td w D → w[i]? = some e →
    (∀ c ∈ e.2, c ∈ ((w.take i).foldl (stp td) D).map (·.1)) ∧ e.2.Nodup ∧ e.1 ∉ ((w.take i).foldl (stp td) D).map (·.1) ∧ (((w.take i).foldl (stp td) D).map (·.1)).Nodup
  | [], _, i, e, _, h => by simp at h
  | x :: w, D, 0, e, h, h' => by simp at h'; subst h'; exact h.1
  | x :: w, D, i + 1, e, h, h' => okF_at td w _ i e h.2 (by simpa using h')
theorem en_nodup {room : Int} : ∀ {t : Tr}, t.keys.Nodup → ((en room t).map (·.1)).Nodup
  | .nil, _ => by simp [en, er, Tr.key?]
  | .node l k r, hn => by
    obtain ⟨n1, n2, n3, n4, n5⟩ := nd_node hn
    have side : ∀ (u : Tr) (b : Bool), ((en room u).map (·.1)).Nodup → ((er room u ++ (if b = true then [] else u.key?.map fun c => (c, hd room u))).map (·.1)).Nodup := fun u b h => by
      cases b with
      | false => exact h
      | true => unfold en at h; rw [List.map_append] at h; simpa using (List.nodup_append.mp h).1
    have h1 := side l (tie room l k r l) (en_nodup n1)
    have h2 := side r (tie room l k r r) (en_nodup n2)
    unfold en
    rw [er, List.map_append, List.map_append, List.nodup_append, List.nodup_append]
    refine ⟨⟨h1, h2, fun a ha b hb z => ?_⟩, by simp [Tr.key?], fun a ha b hb z => ?_⟩
    · obtain ⟨e, he, rfl⟩ := List.mem_map.mp ha
      obtain ⟨e', he', rfl⟩ := List.mem_map.mp hb
      exact n5 _ (side_key (er_keys room l) he) (by rw [z]; exact side_key (er_keys room r) he')
    · have hb' : b = k := by simpa [Tr.key?] using hb
      subst hb'
      subst z
      rcases List.mem_append.mp ha with ha | ha
      · obtain ⟨e, he, h⟩ := List.mem_map.mp ha
        exact n3 (by rw [← h]; exact side_key (er_keys room l) he)
      · obtain ⟨e, he, h⟩ := List.mem_map.mp ha
        exact n4 (by rw [← h]; exact side_key (er_keys room r) he)
theorem okF_tree (room : Int) (td : List Int) : ∀ (t : Tr) (D : PTab), t.keys.Nodup → TdOk room td t → (∀ e ∈ D, e.1 ∉ t.keys) → (D.map (·.1)).Nodup → OkF td t.wk D
  | .nil, D, _, _, _, _ => trivial
  | .node l k r, D, hn, ht, hD, hDn => by
    obtain ⟨n1, n2, n3, n4, n5⟩ := nd_node hn
    have Dl : ∀ e ∈ D, e.1 ∉ l.keys := fun e he h => hD e he (by simp [Tr.keys, h])
    have Dr : ∀ e ∈ D, e.1 ∉ r.keys := fun e he h => hD e he (by simp [Tr.keys, h])
    have hr2 : ∀ e ∈ D ++ en room l, e.1 ∉ r.keys := fun e he => by
      rcases List.mem_append.mp he with he | he
      · exact Dr e he
      · exact n5 _ (en_keys he)
    have app : ∀ (E : PTab) (u : Tr), (E.map (·.1)).Nodup → u.keys.Nodup → (∀ e ∈ E, e.1 ∉ u.keys) → ((E ++ en room u).map (·.1)).Nodup := fun E u h1 h2 h3 => by
      rw [List.map_append, List.nodup_append]
      refine ⟨h1, en_nodup h2, fun a ha b hb z => ?_⟩
      obtain ⟨e, he, rfl⟩ := List.mem_map.mp ha
      obtain ⟨e', he', rfl⟩ := List.mem_map.mp hb
      exact h3 e he (by rw [z]; exact en_keys he')
    have nl := app D l hDn n1 Dl
    have nr := app _ r nl n2 hr2
    rw [Tr.wk]
    refine okF_append td _ _ D (okF_append td _ _ D (okF_tree room td l D n1 ht.2.2.1 Dl hDn) ?_) ?_
    · rw [fold_en room td l D n1 ht.2.2.1 Dl]
      exact okF_tree room td r _ n2 ht.2.2.2 hr2 nl
    · rw [List.foldl_append, fold_en room td l D n1 ht.2.2.1 Dl, fold_en room td r _ n2 ht.2.2.2 hr2]
      refine ⟨⟨fun c hc => ?_, ?_, fun h => ?_, nr⟩, trivial⟩
      · rcases List.mem_append.mp hc with hc | hc
        · exact List.mem_map.mpr ⟨(c, hd room l), by simp [en, hc], rfl⟩
        · exact List.mem_map.mpr ⟨(c, hd room r), by simp [en, hc], rfl⟩
      · rw [List.nodup_append]
        exact ⟨by cases l <;> simp [Tr.key?], by cases r <;> simp [Tr.key?], fun a ha b hb z => n5 a (key_keys l a ha) (by rw [z]; exact key_keys r b hb)⟩
      · obtain ⟨e, he, rfl⟩ := List.mem_map.mp h
        rcases List.mem_append.mp he with he | he
        · rcases List.mem_append.mp he with he | he
          · exact hD e he (by simp [Tr.keys])
          · exact n3 (en_keys he)
        · exact n4 (en_keys he)
end K43C
namespace L3
open PySem L2
noncomputable def Pen3 (H : Hp) (p : Addr) : Prop := ∃ m n c, H p = some (.lst [.int m, .int n, .int c])
theorem Pen3.mono {H H' : Hp} {p : Addr} (h : Pen3 H p) (s : Same H H') : Pen3 H' p := by
  obtain ⟨m, n, c, e⟩ := h
  exact ⟨m, n, c, s _ _ e⟩
theorem Pen3.ne {H : Hp} {p l : Addr} (h : Pen3 H p) (e : H l = none) : l ≠ p := by
  obtain ⟨m, n, c, q⟩ := h
  intro z
  rw [z, q] at e; cases e
theorem Pen3.free {H H' : Hp} {p l : Addr} (h : Pen3 H' p) (s : Same (rm p H) H') (e : H' l = none) : H l = none := by
  obtain ⟨m, n, c, q⟩ := h
  exact rm_free s e q
theorem Pen3.off {H : Hp} {p l : Addr} {o : HO} (h : Pen3 H p) (hl : p ≠ l) : Pen3 (upd H l o) p := by
  obtain ⟨m, n, c, q⟩ := h
  exact ⟨m, n, c, by rw [upd_ne hl]; exact q⟩
theorem rep_pen3 {H : Hp} {p : Addr} (hp : Pen3 H p) (t : Tr) {v : V} (h : Rep H v t.d) : Rep (rm p H) v t.d := by
  obtain ⟨m, n, c, e⟩ := hp
  exact rep_rm e t h
theorem seqIx {k n : Nat} (h : k < n) : seqIndex? (k : Int) n = some k := (ixN_seq (i := (k : Int)) (by unfold ixN; rw [if_pos (by lia), if_pos (by lia)]; simp)).1
theorem erase_map {α β : Type} (f : α → β) : ∀ (xs : List α) (k : Nat), (xs.map f).eraseIdx k = (xs.eraseIdx k).map f
  | [], _ => rfl
  | x :: xs, 0 => rfl
  | x :: xs, k + 1 => by simp [erase_map f xs k]
theorem erase_len {α : Type} : ∀ (xs : List α) (k : Nat), k < xs.length → (xs.eraseIdx k).length + 1 = xs.length
  | x :: xs, 0, _ => rfl
  | x :: xs, k + 1, h => by
    have := erase_len xs k (by simpa using h)
    simp; lia
theorem erase_perm {α : Type} : ∀ (xs : List α) (k : Nat) (x : α), xs[k]? = some x → (x :: xs.eraseIdx k).Perm xs
  | [], _, _, h => by simp at h
  | y :: xs, 0, x, h => by simp at h; subst h; exact List.Perm.refl _
  | y :: xs, k + 1, x, h => by
    have ih := erase_perm xs k x (by simpa using h)
    exact (List.Perm.swap y x _).trans (ih.cons y)
theorem ne_ints {H : Hp} {a b : Addr} {xs ys : List Int} {Q : VK} (ea : H a = some (.lst (xs.map V.int))) (eb : H b = some (.lst (ys.map V.int))) (h : Q (.bl (!decide (xs = ys))) H) : rNeG 150 (.ref a) (.ref b) H Q := by
  refine ⟨_, _, rep_ints ea, rep_ints eb, by rw [D.pure]; exact pures_ints xs, by rw [D.pure]; exact pures_ints ys, by rw [D.dep, deps_ints]; decide, ?_⟩
  by_cases he : xs = ys
  · subst he
    rw [D.eqv_refl]
    simpa using h
  · have hne : (D.lst (xs.map D.int)).eqv (.lst (ys.map D.int)) = false := eqv_ne (by rw [D.pure]; exact pures_ints xs) (by rw [D.pure]; exact pures_ints ys) (fun z => he (by
      injection z with z
      exact (List.map_inj_right (fun _ _ q => by injection q)).mp z))
    rw [hne]
    rw [decide_eq_false he] at h
    exact h
theorem eq_ints {H : Hp} {a b : Addr} {xs ys : List Int} {Q : VK} (ea : H a = some (.lst (xs.map V.int))) (eb : H b = some (.lst (ys.map V.int))) (h : Q (.bl (decide (xs = ys))) H) : rEqG 150 (.ref a) (.ref b) H Q := by
  refine ⟨_, _, rep_ints ea, rep_ints eb, by rw [D.pure]; exact pures_ints xs, by rw [D.pure]; exact pures_ints ys, by rw [D.dep, deps_ints]; decide, ?_⟩
  by_cases he : xs = ys
  · subst he
    rw [D.eqv_refl]
    simpa using h
  · have hne : (D.lst (xs.map D.int)).eqv (.lst (ys.map D.int)) = false := eqv_ne (by rw [D.pure]; exact pures_ints xs) (by rw [D.pure]; exact pures_ints ys) (fun z => he (by
      injection z with z
      exact (List.map_inj_right (fun _ _ q => by injection q)).mp z))
    rw [hne]
    rw [decide_eq_false he] at h
    exact h
theorem ne_same {H : Hp} {a b : Addr} {e : D} {Q : VK} (ra : Rep H (.ref a) e) (rb : Rep H (.ref b) e) (hp : e.pure = true) (hd : e.dep ≤ 140) (h : Q (.bl false) H) : rNeG 150 (.ref a) (.ref b) H Q := by
  refine ⟨_, _, ra, rb, hp, hp, by lia, ?_⟩
  rw [D.eqv_refl]; exact h
theorem inV_ints (k : Int) : ∀ ws : List Int, inV (.int k) (ws.map V.int) = decide (k ∈ ws)
  | [] => by simp [inV]
  | w :: ws => by
    have ih := inV_ints k ws
    unfold inV at ih ⊢
    rw [List.map_cons, List.any_cons, ih]
    by_cases h : w = k
    · subst h; simp [eqV]
    · have h' : ¬ k = w := fun z => h z.symm
      simp [eqV, h, h']
theorem flat_ints : ∀ ws : List Int, (ws.map V.int).all flatV = true
  | [] => rfl
  | w :: ws => by rw [List.map_cons, List.all_cons, flat_ints ws]; rfl
noncomputable def Pgs (H : Hp) : List Addr → List (List Int) → Prop
  | [], [] => True
  | b :: bs, p :: ps => H b = some (.lst (p.map V.int)) ∧ Pgs H bs ps
  | _, _ => False
theorem Pgs.stay {H H' : Hp} : ∀ {bs : List Addr} {ps : List (List Int)}, Pgs H bs ps → (∀ b ∈ bs, H' b = H b) → Pgs H' bs ps
  | [], [], _, _ => trivial
  | b :: bs, p :: ps, h, s => ⟨by rw [s b (by simp)]; exact h.1, h.2.stay (fun c hc => s c (by simp [hc]))⟩
  | [], _ :: _, h, _ => h.elim
  | _ :: _, [], h, _ => h.elim
theorem Pgs.mono {H H' : Hp} : ∀ {bs : List Addr} {ps : List (List Int)}, Pgs H bs ps → Same H H' → Pgs H' bs ps
  | [], [], _, _ => trivial
  | b :: bs, p :: ps, h, s => ⟨s _ _ h.1, h.2.mono s⟩
  | [], _ :: _, h, _ => h.elim
  | _ :: _, [], h, _ => h.elim
theorem Pgs.len {H : Hp} : ∀ {bs : List Addr} {ps : List (List Int)}, Pgs H bs ps → bs.length = ps.length
  | [], [], _ => rfl
  | b :: bs, p :: ps, h => by simp [h.2.len]
  | [], _ :: _, h => h.elim
  | _ :: _, [], h => h.elim
theorem Pgs.at {H : Hp} : ∀ {bs : List Addr} {ps : List (List Int)} {j : Nat} {b : Addr}, Pgs H bs ps → bs[j]? = some b → ∃ p, ps[j]? = some p ∧ H b = some (.lst (p.map V.int))
  | [], [], _, _, _, e => by simp at e
  | c :: bs, q :: ps, 0, b, h, e => by simp at e; subst e; exact ⟨q, rfl, h.1⟩
  | c :: bs, q :: ps, j + 1, b, h, e => by simpa using Pgs.at h.2 (j := j) (by simpa using e)
  | [], _ :: _, _, _, h, _ => h.elim
  | _ :: _, [], _, _, h, _ => h.elim
theorem Pgs.of {H : Hp} : ∀ {bs : List Addr} {ps : List (List Int)} {b : Addr}, Pgs H bs ps → b ∈ bs → ∃ p, p ∈ ps ∧ H b = some (.lst (p.map V.int))
  | [], [], _, _, e => by simp at e
  | c :: bs, q :: ps, b, h, e => by
    rcases List.mem_cons.mp e with rfl | e
    · exact ⟨q, by simp, h.1⟩
    · obtain ⟨p, h1, h2⟩ := Pgs.of h.2 e
      exact ⟨p, by simp [h1], h2⟩
  | [], _ :: _, _, h, _ => h.elim
  | _ :: _, [], _, h, _ => h.elim
noncomputable def Ls (ps : List (List Int)) : D := .lst (ps.map fun p => .lst (p.map D.int))
theorem Ls_pures : ∀ ps : List (List Int), pures (ps.map fun p => D.lst (p.map D.int)) = true
  | [] => rfl
  | p :: r => by rw [List.map_cons, pures, Ls_pures r, D.pure, pures_ints]; rfl
theorem Ls_deps : ∀ ps : List (List Int), deps (ps.map fun p => D.lst (p.map D.int)) ≤ 1
  | [] => by rw [List.map_nil, deps]; decide
  | p :: r => by
    have := Ls_deps r
    rw [List.map_cons, deps, D.dep, deps_ints]
    lia
theorem Ls_pure (ps : List (List Int)) : (Ls ps).pure = true := by unfold Ls; rw [D.pure]; exact Ls_pures ps
theorem Ls_dep (ps : List (List Int)) : (Ls ps).dep ≤ 140 := by
  have := Ls_deps ps
  unfold Ls; rw [D.dep]; lia
theorem Pgs.reps {H : Hp} : ∀ {bs : List Addr} {ps : List (List Int)}, Pgs H bs ps → Reps H (bs.map V.ref) (ps.map fun p => D.lst (p.map D.int))
  | [], [], _ => .nil
  | b :: bs, p :: ps, h => .cons (rep_ints h.1) h.2.reps
  | [], _ :: _, h => h.elim
  | _ :: _, [], h => h.elim
theorem Pgs.rep {H : Hp} {a : Addr} {bs : List Addr} {ps : List (List Int)} (h : Pgs H bs ps) (e : H a = some (.lst (bs.map V.ref))) : Rep H (.ref a) (Ls ps) := .lst e h.reps
end L3
namespace L3
open PySem L2
noncomputable def at_ (k : Int) : Tr → Tr
  | .nil => .nil
  | .node l x r => if x = k then .node l x r else if k < x then at_ k l else at_ k r
theorem ord_bd : ∀ (t : Tr) (lo hi : Option Int), t.ord lo hi → ∀ y ∈ t.keys, (∀ a, lo = some a → a < y) ∧ ∀ b, hi = some b → y < b
  | .nil, lo, hi, _, y, hy => by simp [Tr.keys] at hy
  | .node l x r, lo, hi, h, y, hy => by
    obtain ⟨h1, h2, h3, h4⟩ := h
    simp only [Tr.keys, List.mem_append, List.mem_singleton] at hy
    rcases hy with (hy | hy) | hy
    · obtain ⟨g1, g2⟩ := ord_bd l lo (some x) h3 y hy
      refine ⟨g1, fun b hb => ?_⟩
      have := g2 x rfl
      have := h2 b hb
      lia
    · subst hy; exact ⟨h1, h2⟩
    · obtain ⟨g1, g2⟩ := ord_bd r (some x) hi h4 y hy
      refine ⟨fun a ha => ?_, g2⟩
      have := g1 x rfl
      have := h1 a ha
      lia
theorem ord_l {l r : Tr} {x : Int} {lo hi : Option Int} (h : (Tr.node l x r).ord lo hi) {y : Int} (hy : y ∈ l.keys) : y < x := (ord_bd l lo (some x) h.2.2.1 y hy).2 x rfl
theorem ord_r {l r : Tr} {x : Int} {lo hi : Option Int} (h : (Tr.node l x r).ord lo hi) {y : Int} (hy : y ∈ r.keys) : x < y := (ord_bd r (some x) hi h.2.2.2 y hy).1 x rfl
theorem ord_rise : ∀ (t : Tr) (lo hi : Option Int), t.ord lo hi → t.keys.Pairwise (· < ·)
  | .nil, _, _, _ => by simp [Tr.keys]
  | .node l x r, lo, hi, h => by
    have g1 := ord_rise l _ _ h.2.2.1
    have g2 := ord_rise r _ _ h.2.2.2
    rw [Tr.keys, List.append_assoc, List.pairwise_append]
    refine ⟨g1, ?_, fun a ha b hb => ?_⟩
    · rw [List.singleton_append, List.pairwise_cons]
      exact ⟨fun b hb => ord_r h hb, g2⟩
    · have := ord_l h ha
      rw [List.singleton_append] at hb
      rcases List.mem_cons.mp hb with rfl | hb
      · exact this
      · have := ord_r h hb; lia
theorem rise_ext : ∀ (xs ys : List Int), xs.Pairwise (· < ·) → ys.Pairwise (· < ·) → (∀ a, a ∈ xs ↔ a ∈ ys) → xs = ys
  | [], [], _, _, _ => rfl
  | [], y :: ys, _, _, h => by have := (h y).mpr (by simp); simp at this
  | x :: xs, [], _, _, h => by have := (h x).mp (by simp); simp at this
  | x :: xs, y :: ys, hx, hy, h => by
    rw [List.pairwise_cons] at hx hy
    have e : x = y := by
      rcases List.mem_cons.mp ((h x).mp (by simp)) with e | e
      · exact e
      · rcases List.mem_cons.mp ((h y).mpr (by simp)) with e' | e'
        · exact e'.symm
        · have := hx.1 y e'
          have := hy.1 x e
          lia
    subst e
    congr 1
    refine rise_ext xs ys hx.2 hy.2 fun a => ?_
    have ha := h a
    simp only [List.mem_cons] at ha
    constructor
    · intro z
      rcases ha.mp (.inr z) with e | e
      · have := hx.1 a z; lia
      · exact e
    · intro z
      rcases ha.mpr (.inr z) with e | e
      · have := hy.1 a z; lia
      · exact e
end L3
namespace L3
open PySem L2
theorem join {G : Prop} {N : L2.St → Hp → Prop} (M : L2.St → Hp → Prop) (h2 : (∀ σ H, M σ H → N σ H) → G) (h1 : ∀ σ H, M σ H → N σ H) : G := h2 h1
theorem valV_none' : ∀ {kvs : List (Key × V)} {k : Key}, k ∉ kvs.map (·.1) → valV kvs k = none
  | [], _, _ => rfl
  | (k', x) :: r, k, h => by
    simp only [List.map_cons, List.mem_cons, not_or] at h
    rw [valV_neg (fun z => h.1 z.symm)]
    exact valV_none' h.2
theorem valV_some' : ∀ {kvs : List (Key × V)} {k : Key} {x : V}, (kvs.map (·.1)).Nodup → (k, x) ∈ kvs → valV kvs k = some x
  | [], _, _, _, h => by simp at h
  | (k', x') :: r, k, x, hn, h => by
    rw [List.map_cons, List.nodup_cons] at hn
    rcases List.mem_cons.mp h with e | h
    · cases e; exact valV_pos rfl
    · have hne : ¬ k' = k := fun z => hn.1 (by rw [z]; exact List.mem_map.mpr ⟨_, h, rfl⟩)
      rw [valV_neg hne]
      exact valV_some' hn.2 h
theorem merge_app : ∀ (more kvs : List (Key × V)), ((kvs ++ more).map (·.1)).Nodup → mergeK kvs more = kvs ++ more
  | [], kvs, _ => by simp [mergeK]
  | (k, x) :: r, kvs, h => by
    have hk : k ∉ kvs.map (·.1) := by
      rw [List.map_append, List.nodup_append] at h
      intro hm
      exact h.2.2 k hm k (by simp) rfl
    have h' : ((kvs ++ [(k, x)] ++ r).map (·.1)).Nodup := by simpa using h
    show mergeK (putK kvs k x) r = _
    rw [putK_new _ (valV_none' hk), merge_app r _ h']
    simp
theorem rd_mono {H H' : Hp} {d : Addr} {u : HO} (h : Rd H d u) (s : Same H H') : Rd H' d u := by
  rcases h with h | ⟨o, h⟩
  · exact .inl (s _ _ h)
  · exact .inr ⟨o, s _ _ h⟩
noncomputable def upsL : Tr → Option Int → List (Key × V)
  | .nil, _ => []
  | .node l x r, u => ((Sum.inl x : Key), vO u) :: (upsL l (some x) ++ upsL r (some x))
theorem upsL_perm : ∀ (t : Tr) (u : Option Int), ((upsL t u).map (·.1)).Perm (t.keys.map (fun y => (Sum.inl y : Key)))
  | .nil, _ => List.Perm.refl _
  | .node l x r, u => by
    have h1 := upsL_perm l (some x)
    have h2 := upsL_perm r (some x)
    rw [upsL, Tr.keys, List.map_cons, List.map_append, List.map_append, List.map_append, List.append_assoc]
    refine List.Perm.trans ((h1.append h2).cons _) ?_
    exact List.perm_middle.symm
theorem upsL_nodup {t : Tr} (h : t.keys.Nodup) (u : Option Int) : ((upsL t u).map (·.1)).Nodup := by
  refine (upsL_perm t u).nodup_iff.mpr ?_
  rw [List.Nodup, List.pairwise_map]
  exact h.imp (fun h z => h (Sum.inl.inj z))
end L3
namespace L3
open PySem L2
noncomputable def unI : V → Int
  | .int i => i
  | _ => 0
theorem Pgs.set {H : Hp} {y : Int} : ∀ {bs : List Addr} {ps : List (List Int)} {j : Nat} {b : Addr} {q : List Int}, Pgs H bs ps → bs.Nodup → bs[j]? = some b → ps[j]? = some q → Pgs (upd H b (.lst (q.map V.int ++ [.int y]))) bs (ps.set j (q ++ [y]))
  | [], [], _, _, _, _, _, e, _ => by simp at e
  | c :: bs, p :: ps, 0, b, q, h, hn, e, e2 => by
    simp at e e2
    subst e e2
    rw [List.nodup_cons] at hn
    refine ⟨by rw [upd_same, List.map_append]; rfl, h.2.stay fun d hd => upd_ne (fun z => hn.1 (z ▸ hd))⟩
  | c :: bs, p :: ps, j + 1, b, q, h, hn, e, e2 => by
    rw [List.nodup_cons] at hn
    have e' : bs[j]? = some b := by simpa using e
    have hcb : c ≠ b := fun z => hn.1 (z ▸ List.mem_of_getElem? e')
    exact ⟨by rw [upd_ne hcb]; exact h.1, Pgs.set h.2 hn.2 e' (by simpa using e2)⟩
  | [], _ :: _, _, _, _, h, _, _, _ => h.elim
  | _ :: _, [], _, _, _, h, _, _, _ => h.elim
end L3
namespace L3
open PySem L2
noncomputable def numN (pss : List (List Int)) : Nat → Int → Option Nat
  | 0, _ => none
  | i + 1, y => if y ∈ pss.getD i [] then some i else numN pss i y
theorem numN_some (pss : List (List Int)) (y : Int) : ∀ i, i ≤ pss.length → ((numN pss i y).isSome = true ↔ y ∈ (pss.take i).flatten)
  | 0, _ => by simp [numN]
  | i + 1, h => by
    have hq : pss[i]? = some pss[i] := List.getElem?_eq_getElem (by lia)
    have ih := numN_some pss y i (by lia)
    rw [numN, List.getD_eq_getElem?_getD, hq, List.take_add_one, hq, List.flatten_append, List.mem_append]
    by_cases hy : y ∈ pss[i]
    · simp [hy]
    · simp only [Option.getD_some, hy, if_false, ih]
      simp [hy]
noncomputable def numP (pss : List (List Int)) (y : Int) : Nat := (numN pss pss.length y).getD 0
theorem numN_in (pss : List (List Int)) (y : Int) : ∀ i n, numN pss i y = some n → n < i ∧ y ∈ pss.getD n []
  | 0, n, h => by simp [numN] at h
  | i + 1, n, h => by
    rw [numN] at h
    by_cases hy : y ∈ pss.getD i []
    · rw [if_pos hy] at h
      cases h
      exact ⟨by lia, hy⟩
    · rw [if_neg hy] at h
      have := numN_in pss y i n h
      exact ⟨by lia, this.2⟩
theorem numP_eq {pss : List (List Int)} {y : Int} (h : y ∈ pss.flatten) : numN pss pss.length y = some (numP pss y) := by
  have := (numN_some pss y pss.length (Nat.le_refl _)).mpr (by rw [List.take_length]; exact h)
  unfold numP
  cases e : numN pss pss.length y with
  | none => rw [e] at this; cases this
  | some n => rfl
theorem numP_lt {pss : List (List Int)} {y : Int} (h : y ∈ pss.flatten) : numP pss y < pss.length ∧ y ∈ pss.getD (numP pss y) [] := numN_in pss y _ _ (numP_eq h)
theorem numP_uniq : ∀ {pss : List (List Int)} {y : Int} {i j : Nat}, pss.flatten.Nodup → y ∈ pss.getD i [] → y ∈ pss.getD j [] → i = j
  | [], _, i, _, _, h, _ => by simp at h
  | q :: r, y, 0, 0, _, _, _ => rfl
  | q :: r, y, 0, j + 1, hn, h1, h2 => by
    exfalso
    rw [List.flatten_cons, List.nodup_append] at hn
    have h1 : y ∈ q := h1
    have h2 : y ∈ r.getD j [] := h2
    refine hn.2.2 y h1 y ?_ rfl
    rw [List.getD_eq_getElem?_getD] at h2
    cases e : r[j]? with
    | none => rw [e] at h2; simp at h2
    | some q' => rw [e] at h2; exact List.mem_flatten.mpr ⟨q', List.mem_of_getElem? e, h2⟩
  | q :: r, y, i + 1, 0, hn, h1, h2 => by
    exfalso
    rw [List.flatten_cons, List.nodup_append] at hn
    have h2 : y ∈ q := h2
    have h1 : y ∈ r.getD i [] := h1
    refine hn.2.2 y h2 y ?_ rfl
    rw [List.getD_eq_getElem?_getD] at h1
    cases e : r[i]? with
    | none => rw [e] at h1; simp at h1
    | some q' => rw [e] at h1; exact List.mem_flatten.mpr ⟨q', List.mem_of_getElem? e, h1⟩
  | q :: r, y, i + 1, j + 1, hn, h1, h2 => by
    rw [List.flatten_cons, List.nodup_append] at hn
    have := numP_uniq (pss := r) (i := i) (j := j) hn.2.1 h1 h2
    lia
theorem numP_is {pss : List (List Int)} {y : Int} {i : Nat} (hn : pss.flatten.Nodup) (h : y ∈ pss.getD i []) : numP pss y = i := by
  have hm : y ∈ pss.flatten := by
    rw [List.getD_eq_getElem?_getD] at h
    cases e : pss[i]? with
    | none => rw [e] at h; simp at h
    | some q' => rw [e] at h; exact List.mem_flatten.mpr ⟨q', List.mem_of_getElem? e, h⟩
  exact numP_uniq hn (numP_lt hm).2 h
noncomputable def ddS (acc : List Int) (n : Int) : List Int := if n ∈ acc then acc else acc ++ [n]
noncomputable def dd (ws : List Int) : List Int := ws.foldl ddS []
end L3
namespace K43C
open PySem L2 L3
noncomputable def so (p : List Int) : List Int := p.mergeSort fun a b => decide (a ≤ b)
theorem so_perm (p : List Int) : (so p).Perm p := List.mergeSort_perm _ _
theorem so_sorted (p : List Int) : (so p).Pairwise (· ≤ ·) := by
  have := List.pairwise_mergeSort (le := fun a b : Int => decide (a ≤ b)) (fun a b c h1 h2 => by simp at *; lia) (fun a b => by simp; lia) p
  exact this.imp fun h => of_decide_eq_true h
theorem so_one {q p : List Int} (h : q.Perm p) (s : q.Pairwise (· ≤ ·)) : q = so p :=
  List.Perm.eq_of_pairwise (fun a b _ _ h1 h2 => Int.le_antisymm h1 h2) s (so_sorted p) (h.trans (so_perm p).symm)
noncomputable def LexS (L : List (List Int)) : Prop := L.Pairwise fun a b => HT.lexLt b a = false
theorem lex_one {L M : List (List Int)} (h : L.Perm M) (a : LexS L) (b : LexS M) : L = M :=
  List.Perm.eq_of_pairwise (fun x y _ _ h1 h2 => HS.lex_tot h2 h1) a b h
noncomputable def lr (room : Int) : Tr → List (List Int)
  | .nil => []
  | .node l k r => (match l with | .nil => [] | .node .. => if tie room l k r l then lr room l else hd room l :: lr room l) ++ (match r with | .nil => [] | .node .. => if tie room l k r r then lr room r else hd room r :: lr room r)
theorem flat_side (room : Int) (u : Tr) (b : Bool) : ((if b = true then hd room u else []) ++ ((er room u ++ (if b = true then [] else u.key?.map fun c => (c, hd room u))).map (·.2)).flatten).Perm (hd room u ++ ((er room u).map (·.2)).flatten) := by
  cases b with
  | true => simp
  | false =>
    cases u with
    | nil => simp [hd, er, Tr.key?]
    | node a c d => simpa [Tr.key?] using List.perm_append_comm
theorem flat_keys (room : Int) : ∀ t : Tr, (hd room t ++ ((er room t).map (·.2)).flatten).Perm t.keys
  | .nil => .refl _
  | .node l k r => by
    have h1 := (flat_side room l (tie room l k r l)).trans (flat_keys room l)
    have h2 := (flat_side room r (tie room l k r r)).trans (flat_keys room r)
    rw [hd, er, List.map_append, List.flatten_append, Tr.keys]
    have e : (k :: ((if tie room l k r l = true then hd room l else []) ++ (if tie room l k r r = true then hd room r else [])) ++
        (((er room l ++ (if tie room l k r l = true then [] else l.key?.map fun c => (c, hd room l))).map (·.2)).flatten ++ ((er room r ++ (if tie room l k r r = true then [] else r.key?.map fun c => (c, hd room r))).map (·.2)).flatten)).Perm
        (k :: (((if tie room l k r l = true then hd room l else []) ++ ((er room l ++ (if tie room l k r l = true then [] else l.key?.map fun c => (c, hd room l))).map (·.2)).flatten) ++ ((if tie room l k r r = true then hd room r else []) ++ ((er room r ++ (if tie room l k r r = true then [] else r.key?.map fun c => (c, hd room r))).map (·.2)).flatten))) := by
      rw [List.cons_append]
      refine List.Perm.cons _ ?_
      generalize (if tie room l k r l = true then hd room l else []) = a
      generalize (if tie room l k r r = true then hd room r else []) = b
      generalize ((er room l ++ (if tie room l k r l = true then [] else l.key?.map fun c => (c, hd room l))).map (·.2)).flatten = c
      generalize ((er room r ++ (if tie room l k r r = true then [] else r.key?.map fun c => (c, hd room r))).map (·.2)).flatten = d
      rw [List.append_assoc, List.append_assoc]
      refine List.Perm.append_left _ ?_
      rw [← List.append_assoc, ← List.append_assoc]
      exact List.Perm.append_right _ List.perm_append_comm
    refine e.trans ((List.Perm.cons _ (h1.append h2)).trans ?_)
    rw [List.append_assoc, List.singleton_append]
    exact List.perm_middle.symm
theorem en_flat (room : Int) (t : Tr) : (((en room t).map (·.2)).flatten).Perm t.keys := by
  refine List.Perm.trans ?_ (flat_keys room t)
  unfold en
  rw [List.map_append, List.flatten_append]
  cases t with
  | nil => exact .refl _
  | node l k r => simpa [Tr.key?] using List.perm_append_comm
theorem hd_top {room : Int} {l r : Tr} {k : Int} : k ∈ hd room (.node l k r) := by rw [hd]; exact .head _
theorem er_top (room : Int) : ∀ (t : Tr) (e : Int × List Int), e ∈ er room t → e.1 ∈ e.2
  | .nil, e, h => by simp [er] at h
  | .node l k r, e, h => by
    have side : ∀ (u : Tr) (b : Bool), (∀ e ∈ er room u, e.1 ∈ e.2) → e ∈ er room u ++ (if b = true then [] else u.key?.map fun c => (c, hd room u)) → e.1 ∈ e.2 := fun u b ih h => by
      rcases List.mem_append.mp h with h | h
      · exact ih e h
      · cases b with
        | true => cases h
        | false =>
          cases u with
          | nil => simp [Tr.key?] at h
          | node a c d =>
            simp [Tr.key?] at h
            subst h
            exact hd_top
    rw [er] at h
    rcases List.mem_append.mp h with h | h
    · exact side l _ (er_top room l) h
    · exact side r _ (er_top room r) h
theorem en_top {room : Int} {t : Tr} {e : Int × List Int} (h : e ∈ en room t) : e.1 ∈ e.2 := by
  rcases List.mem_append.mp h with h | h
  · exact er_top room t e h
  · cases t with
    | nil => simp [Tr.key?] at h
    | node l k r => simp [Tr.key?] at h; subst h; exact hd_top
theorem hd_size {room : Int} (hr : 1 ≤ room) : ∀ t : Tr, ((hd room t).length : Int) = (t.mark room).2 ∧ ((hd room t).length : Int) ≤ room
  | .nil => ⟨rfl, by simp [hd]; lia⟩
  | .node l k r => by
    obtain ⟨l1, l2⟩ := hd_size hr l
    obtain ⟨r1, r2⟩ := hd_size hr r
    have hp : ∀ p ∈ l.mk1 room ++ r.mk1 room, 1 ≤ p.1 := fun p hp => by
      rcases List.mem_append.mp hp with h | h
      · exact mark_pos room l p h
      · exact mark_pos room r p h
    have sd : ∀ (u : Tr) (M : Int), 1 ≤ M → ((u.mk1 room).filter fun p => decide (p.1 = M)).map (·.2) = if (u.mark room).1 = M then (match u with | .nil => [] | .node .. => [(u.mark room).2]) else [] := fun u M hM => by
      cases u with
      | nil => simp [Tr.mk1]
      | node a b c => by_cases h : ((Tr.node a b c).mark room).1 = M <;> simp [Tr.mk1, h]
    have key : ((Tr.node l k r).mark room) = ruleM (l.mk1 room ++ r.mk1 room) room := Tr.mark_node room l k r
    have nil0 : (Tr.nil.mark room).1 = 0 := rfl
    rw [hd, List.length_cons, List.length_append]
    have lenI : ∀ (u : Tr) (b : Bool), (((if b = true then hd room u else []).length : Nat) : Int) = if b = true then ((hd room u).length : Int) else 0 := fun u b => by cases b <;> simp
    have L : ((((if tie room l k r l = true then hd room l else []).length + (if tie room l k r r = true then hd room r else []).length + 1 : Nat)) : Int) = (if tie room l k r l = true then (l.mark room).2 else 0) + (if tie room l k r r = true then (r.mark room).2 else 0) + 1 := by
      rw [← l1, ← r1]
      have a := lenI l (tie room l k r l)
      have b := lenI r (tie room l k r r)
      lia
    rw [L]
    by_cases e : l.mk1 room ++ r.mk1 room = []
    · have hl : l = .nil := by cases l with
        | nil => rfl
        | node a b c => simp [Tr.mk1] at e
      have hr' : r = .nil := by cases r with
        | nil => rfl
        | node a b c => simp [Tr.mk1] at e
      subst hl hr'
      have : ((Tr.node .nil k .nil).mark room) = (1, 1) := rfl
      simp [tie, this, nil0]
      lia
    · obtain ⟨m1, m2⟩ := maxI_in ((l.mk1 room ++ r.mk1 room).map (·.1)) (by simpa using e)
      have hM : 1 ≤ maxI ((l.mk1 room ++ r.mk1 room).map (·.1)) := by
        obtain ⟨p, h1, h2⟩ := List.mem_map.mp m1
        have := hp p h1
        lia
      generalize hm : maxI ((l.mk1 room ++ r.mk1 room).map (·.1)) = M at *
      have hru : ruleM (l.mk1 room ++ r.mk1 room) room = if 1 + (((l.mk1 room ++ r.mk1 room).filter fun p => decide (p.1 = M)).map (·.2)).sum ≤ room then (M, 1 + (((l.mk1 room ++ r.mk1 room).filter fun p => decide (p.1 = M)).map (·.2)).sum) else (M + 1, 1) := by
        unfold ruleM; rw [if_neg e]; dsimp only; rw [hm]
      have hsum : (((l.mk1 room ++ r.mk1 room).filter fun p => decide (p.1 = M)).map (·.2)).sum = (if (l.mark room).1 = M then (l.mark room).2 else 0) + (if (r.mark room).1 = M then (r.mark room).2 else 0) := by
        rw [List.filter_append, List.map_append, List.sum_append, sd l M hM, sd r M hM]
        have s1 : ∀ u : Tr, (if (u.mark room).1 = M then (match u with | .nil => ([] : List Int) | .node .. => [(u.mark room).2]) else []).sum = if (u.mark room).1 = M then (u.mark room).2 else 0 := fun u => by
          cases u with
          | nil =>
            have : ¬ (Tr.nil.mark room).1 = M := by rw [nil0]; lia
            simp [this]
          | node a b c => by_cases h : ((Tr.node a b c).mark room).1 = M <;> simp [h]
        rw [s1, s1]
      rw [hsum] at hru
      rw [hru] at key
      have lu : ∀ u : Tr, (u = l ∨ u = r) → (u.mark room).1 ≤ M := fun u hu => by
        cases u with
        | nil => rw [nil0]; lia
        | node a b c =>
          refine m2 _ (List.mem_map.mpr ⟨(Tr.node a b c).mark room, ?_, rfl⟩)
          rcases hu with rfl | rfl
          · simp [Tr.mk1]
          · simp [Tr.mk1]
      by_cases hs : 1 + ((if (l.mark room).1 = M then (l.mark room).2 else 0) + (if (r.mark room).1 = M then (r.mark room).2 else 0)) ≤ room
      · rw [if_pos hs] at key
        have tl : tie room l k r l = decide ((l.mark room).1 = M) := by unfold tie; rw [key]
        have tr : tie room l k r r = decide ((r.mark room).1 = M) := by unfold tie; rw [key]
        rw [tl, tr, key]
        simp only [decide_eq_true_eq]
        constructor <;> lia
      · rw [if_neg hs] at key
        have h1 := lu l (.inl rfl)
        have h2 := lu r (.inr rfl)
        have tl : tie room l k r l = false := by unfold tie; rw [key]; exact decide_eq_false (by show ¬ _ = M + 1; lia)
        have tr : tie room l k r r = false := by unfold tie; rw [key]; exact decide_eq_false (by show ¬ _ = M + 1; lia)
        rw [tl, tr, key]
        simp
        lia
end K43C
namespace K43C
open PySem L2 L3
theorem er_size {room : Int} (hr : 1 ≤ room) : ∀ (t : Tr) (e : Int × List Int), e ∈ er room t → (e.2.length : Int) ≤ room
  | .nil, e, h => by simp [er] at h
  | .node l k r, e, h => by
    have side : ∀ (u : Tr) (b : Bool), (∀ e ∈ er room u, (e.2.length : Int) ≤ room) → e ∈ er room u ++ (if b = true then [] else u.key?.map fun c => (c, hd room u)) → (e.2.length : Int) ≤ room := fun u b ih h => by
      rcases List.mem_append.mp h with h | h
      · exact ih e h
      · cases b with
        | true => cases h
        | false =>
          obtain ⟨c, _, rfl⟩ := List.mem_map.mp (show e ∈ u.key?.map fun c => (c, hd room u) from h)
          exact (hd_size hr u).2
    rw [er] at h
    rcases List.mem_append.mp h with h | h
    · exact side l _ (er_size hr l) h
    · exact side r _ (er_size hr r) h
theorem en_size {room : Int} (hr : 1 ≤ room) {t : Tr} {e : Int × List Int} (h : e ∈ en room t) : (e.2.length : Int) ≤ room := by
  rcases List.mem_append.mp h with h | h
  · exact er_size hr t e h
  · obtain ⟨c, _, rfl⟩ := List.mem_map.mp h
    exact (hd_size hr t).2
noncomputable def lev (room : Int) (t : Tr) : Int := (t.mark room).1
theorem lev_pos (room : Int) {t : Tr} (h : t ≠ .nil) : 1 ≤ lev room t := by
  cases t with
  | nil => exact absurd rfl h
  | node l k r => exact mark_pos room (.node l k r) _ (by simp [Tr.mk1])
theorem lev_rule (room : Int) (l : Tr) (k : Int) (r : Tr) :
    (∀ u, (u = l ∨ u = r) → u ≠ .nil → (tie room l k r u = true → lev room u = lev room (.node l k r)) ∧ (tie room l k r u = false → lev room u + 1 ≤ lev room (.node l k r))) ∧
    ((l = .nil ∧ r = .nil ∧ lev room (.node l k r) = 1) ∨ ∃ u, (u = l ∨ u = r) ∧ u ≠ .nil ∧ (tie room l k r u = true ∨ lev room u + 1 = lev room (.node l k r))) := by
  have key : ((Tr.node l k r).mark room) = ruleM (l.mk1 room ++ r.mk1 room) room := Tr.mark_node room l k r
  have mem : ∀ u, (u = l ∨ u = r) → u ≠ .nil → u.mark room ∈ l.mk1 room ++ r.mk1 room := fun u hu hn => by
    cases u with
    | nil => exact absurd rfl hn
    | node a b c =>
      rcases hu with rfl | rfl
      · simp [Tr.mk1]
      · simp [Tr.mk1]
  by_cases e : l.mk1 room ++ r.mk1 room = []
  · have hl : l = .nil := by cases l with
      | nil => rfl
      | node a b c => simp [Tr.mk1] at e
    have hr' : r = .nil := by cases r with
      | nil => rfl
      | node a b c => simp [Tr.mk1] at e
    subst hl hr'
    refine ⟨fun u hu hn => ?_, .inl ⟨rfl, rfl, rfl⟩⟩
    rcases hu with rfl | rfl <;> exact absurd rfl hn
  · obtain ⟨m1, m2⟩ := maxI_in ((l.mk1 room ++ r.mk1 room).map (·.1)) (by simpa using e)
    have hle : ∀ u, (u = l ∨ u = r) → u ≠ .nil → lev room u ≤ maxI ((l.mk1 room ++ r.mk1 room).map (·.1)) := fun u hu hn => m2 _ (List.mem_map.mpr ⟨_, mem u hu hn, rfl⟩)
    have hex : ∃ u, (u = l ∨ u = r) ∧ u ≠ .nil ∧ lev room u = maxI ((l.mk1 room ++ r.mk1 room).map (·.1)) := by
      obtain ⟨p, h1, h2⟩ := List.mem_map.mp m1
      rcases List.mem_append.mp h1 with h | h
      · cases l with
        | nil => simp [Tr.mk1] at h
        | node a b c => simp [Tr.mk1] at h; subst h; exact ⟨_, .inl rfl, (fun z => nomatch z), h2⟩
      · cases r with
        | nil => simp [Tr.mk1] at h
        | node a b c => simp [Tr.mk1] at h; subst h; exact ⟨_, .inr rfl, (fun z => nomatch z), h2⟩
    have hlv : lev room (.node l k r) = maxI ((l.mk1 room ++ r.mk1 room).map (·.1)) ∨ lev room (.node l k r) = maxI ((l.mk1 room ++ r.mk1 room).map (·.1)) + 1 := by
      unfold lev
      rw [key]
      unfold ruleM
      rw [if_neg e]
      dsimp only
      split
      · exact .inl rfl
      · exact .inr rfl
    have tie_iff : ∀ u, tie room l k r u = decide (lev room u = lev room (.node l k r)) := fun u => rfl
    refine ⟨fun u hu hn => ⟨fun h => ?_, fun h => ?_⟩, .inr ?_⟩
    · rw [tie_iff] at h; exact of_decide_eq_true h
    · rw [tie_iff] at h
      have h := of_decide_eq_false h
      have := hle u hu hn
      lia
    · obtain ⟨u, h1, h2, h3⟩ := hex
      refine ⟨u, h1, h2, ?_⟩
      rcases hlv with h | h
      · exact .inl (by rw [tie_iff]; exact decide_eq_true (by lia))
      · exact .inr (by lia)
noncomputable def top1 : Tr → Int
  | .nil => 0
  | .node _ k _ => k
noncomputable def idf (room a : Int) : Tr → Int → Int
  | .nil, _ => a
  | .node l k r, x => if x = k then a else if x ∈ l.keys then idf room (if tie room l k r l then a else top1 l) l x else idf room (if tie room l k r r then a else top1 r) r x
theorem idf_top (room a : Int) {t : Tr} (h : t ≠ .nil) : idf room a t (top1 t) = a := by
  cases t with
  | nil => exact absurd rfl h
  | node l k r => simp [idf, top1]
theorem ne_of_mem {t : Tr} {x : Int} (h : x ∈ t.keys) : t ≠ .nil := fun z => by rw [z] at h; simp [Tr.keys] at h
theorem key_top {t : Tr} (h : t ≠ .nil) : t.key? = [top1 t] := by
  cases t with
  | nil => exact absurd rfl h
  | node l k r => rfl
theorem idf_page (room : Int) : ∀ (t : Tr) (a x : Int), t.keys.Nodup → x ∈ t.keys → ∃ p, (idf room a t x, p) ∈ er room t ++ [(a, hd room t)] ∧ x ∈ p
  | .nil, a, x, _, h => by simp [Tr.keys] at h
  | .node l k r, a, x, hn, h => by
    obtain ⟨n1, n2, n3, n4, n5⟩ := nd_node hn
    rw [idf]
    by_cases hx : x = k
    · rw [if_pos hx]
      exact ⟨_, List.mem_append_right _ (.head _), by rw [hx]; exact hd_top⟩
    · rw [if_neg hx]
      have side : ∀ u, (u = l ∨ u = r) → x ∈ u.keys → (∃ p, (idf room (if tie room l k r u then a else top1 u) u x, p) ∈ er room u ++ [(if tie room l k r u then a else top1 u, hd room u)] ∧ x ∈ p) →
          ∃ p, (idf room (if tie room l k r u then a else top1 u) u x, p) ∈ er room (.node l k r) ++ [(a, hd room (.node l k r))] ∧ x ∈ p := fun u hu hxu ⟨p, hp, hxp⟩ => by
        have sub : ∀ e, e ∈ er room u ++ (if tie room l k r u = true then [] else u.key?.map fun c => (c, hd room u)) → e ∈ er room (.node l k r) := fun e he => by
          rw [er]
          rcases hu with rfl | rfl
          · exact List.mem_append_left _ he
          · exact List.mem_append_right _ he
        rcases List.mem_append.mp hp with hp | hp
        · exact ⟨p, List.mem_append_left _ (sub _ (List.mem_append_left _ hp)), hxp⟩
        · rw [List.mem_singleton] at hp
          by_cases ht : tie room l k r u = true
          · rw [if_pos ht] at hp ⊢
            have e1 := (Prod.mk.inj hp).1
            have e2 := (Prod.mk.inj hp).2
            refine ⟨hd room (.node l k r), List.mem_append_right _ (by rw [e1]; exact .head _), ?_⟩
            rw [hd]
            rw [e2] at hxp
            rcases hu with rfl | rfl
            · rw [if_pos ht]; simp [hxp]
            · rw [if_pos ht]; simp [hxp]
          · rw [if_neg ht] at hp ⊢
            refine ⟨p, List.mem_append_left _ (sub _ (List.mem_append_right _ ?_)), hxp⟩
            rw [if_neg ht, hp, key_top (ne_of_mem hxu)]
            exact .head _
      by_cases hl : x ∈ l.keys
      · rw [if_pos hl]
        exact side l (.inl rfl) hl (idf_page room l _ x n1 hl)
      · rw [if_neg hl]
        have hxr : x ∈ r.keys := by
          simp only [Tr.keys, List.mem_append, List.mem_singleton] at h
          rcases h with (h | h) | h
          · exact absurd h hl
          · exact absurd h hx
          · exact h
        exact side r (.inr rfl) hxr (idf_page room r _ x n2 hxr)
noncomputable def pid (room : Int) (t : Tr) (x : Int) : Int := idf room (top1 t) t x
theorem pid_page (room : Int) {t : Tr} {x : Int} (hn : t.keys.Nodup) (h : x ∈ t.keys) : ∃ p, (pid room t x, p) ∈ en room t ∧ x ∈ p := by
  obtain ⟨p, h1, h2⟩ := idf_page room t (top1 t) x hn h
  exact ⟨p, by unfold en; rw [key_top (ne_of_mem h)]; exact h1, h2⟩
theorem lkP_of' : ∀ {D : PTab} {c : Int} {p : List Int}, (D.map (·.1)).Nodup → (c, p) ∈ D → lkP D c = p
  | e :: D, c, p, hn, h => by
    obtain ⟨h1, h2⟩ := List.nodup_cons.mp (show (e.1 :: D.map (·.1)).Nodup from hn)
    unfold lkP
    rw [List.find?_cons]
    rcases List.mem_cons.mp h with e1 | h'
    · subst e1; simp
    · have hne : ¬ e.1 = c := fun z => h1 (by rw [z]; exact List.mem_map.mpr ⟨_, h', rfl⟩)
      simp only [hne, decide_false]
      exact lkP_of' h2 h'
theorem pair_one {α : Type} {R : α → α → Prop} {l : List α} (h : l.Pairwise R) {a b : α} (ha : a ∈ l) (hb : b ∈ l) (hne : a ≠ b) : R a b ∨ R b a := by
  obtain ⟨i, hi, rfl⟩ := List.getElem_of_mem ha
  obtain ⟨j, hj, rfl⟩ := List.getElem_of_mem hb
  rw [List.pairwise_iff_getElem] at h
  rcases Nat.lt_trichotomy i j with c | c | c
  · exact .inl (h i j hi hj c)
  · subst c; exact absurd rfl hne
  · exact .inr (h j i hj hi c)
theorem en_one {room : Int} {t : Tr} (hn : t.keys.Nodup) {e e' : Int × List Int} (h : e ∈ en room t) (h' : e' ∈ en room t) {x : Int} (hx : x ∈ e.2) (hx' : x ∈ e'.2) : e = e' := by
  by_cases c : e = e'
  · exact c
  · have := (en_flat room t).nodup_iff.mpr hn
    rw [List.Nodup, List.pairwise_flatten] at this
    rcases pair_one (List.pairwise_map.mp this.2) h h' c with z | z
    · exact absurd rfl (z x hx x hx')
    · exact absurd rfl (z x hx' x hx)
structure Laid (room : Int) (t : Tr) (L : List (List Int)) : Prop where
  perm : L.Perm (((en room t).map (·.2)).map so)
  nd : t.keys.Nodup
theorem flat_so : ∀ ps : List (List Int), (ps.map so).flatten.Perm ps.flatten
  | [] => .refl _
  | p :: ps => by rw [List.map_cons, List.flatten_cons, List.flatten_cons]; exact (so_perm p).append (flat_so ps)
theorem Laid.flat {room : Int} {t : Tr} {L : List (List Int)} (h : Laid room t L) : L.flatten.Perm t.keys :=
  (h.perm.flatten.trans (flat_so _)).trans (en_flat room t)
theorem Laid.len {room : Int} {t : Tr} {L : List (List Int)} (h : Laid room t L) : L.length = (en room t).length := by
  have := h.perm.length_eq
  rwa [List.length_map, List.length_map] at this
theorem Laid.at_ {room : Int} {t : Tr} {L : List (List Int)} (h : Laid room t L) {p : List Int} {c : Int} (hp : (c, p) ∈ en room t) : ∃ i, i < L.length ∧ L.getD i [] = so p := by
  have : so p ∈ L := h.perm.mem_iff.mpr (List.mem_map.mpr ⟨p, List.mem_map.mpr ⟨_, hp, rfl⟩, rfl⟩)
  obtain ⟨i, hi, e⟩ := List.getElem_of_mem this
  exact ⟨i, hi, by rw [List.getD_eq_getElem?_getD, List.getElem?_eq_getElem hi]; exact e⟩
theorem Laid.home {room : Int} {t : Tr} {L : List (List Int)} (h : Laid room t L) {x y : Int} (hx : x ∈ t.keys) (hy : y ∈ t.keys) : numP L x = numP L y ↔ pid room t x = pid room t y := by
  have hf : L.flatten.Nodup := h.flat.nodup_iff.mpr h.nd
  obtain ⟨p, h1, h2⟩ := pid_page room h.nd hx
  obtain ⟨q, h3, h4⟩ := pid_page room h.nd hy
  obtain ⟨i, i1, i2⟩ := h.at_ h1
  obtain ⟨j, j1, j2⟩ := h.at_ h3
  have ex : numP L x = i := numP_is hf (by rw [i2]; exact (so_perm p).mem_iff.mpr h2)
  have ey : numP L y = j := numP_is hf (by rw [j2]; exact (so_perm q).mem_iff.mpr h4)
  constructor
  · intro e
    have hij : i = j := by lia
    subst hij
    have hxq : x ∈ q := (so_perm q).mem_iff.mp (by rw [← j2, i2]; exact (so_perm p).mem_iff.mpr h2)
    exact (Prod.mk.inj (en_one h.nd h1 h3 h2 hxq)).1
  · intro e
    have hpq : p = q := by
      have hyp : y ∈ q := h4
      rw [← e] at h3
      have hne := en_nodup (room := room) h.nd
      have := lkP_of' hne h1
      have := lkP_of' hne h3
      simp_all
    subst hpq
    have := numP_is hf (y := y) (i := i) (by rw [i2]; exact (so_perm p).mem_iff.mpr h4)
    lia
end K43C
namespace K43C
open PySem L2 L3
noncomputable def apL (h : Int → Nat) : Option Int → Tr → List Int
  | _, .nil => []
  | up, .node l k r => (match up with | some a => if h a ≠ h k then [(h k : Int)] else [] | none => []) ++ apL h (some k) l ++ apL h (some k) r
noncomputable def Parts (h : Int → Nat) (P : Int → Int) (T : List Int) : Prop := ∀ x ∈ T, ∀ y ∈ T, (h x = h y ↔ P x = P y)
theorem top_mem {t : Tr} (h : t ≠ .nil) : top1 t ∈ t.keys := by
  cases t with
  | nil => exact absurd rfl h
  | node l k r => simp [top1, Tr.keys]
theorem ap_side (h : Int → Nat) (P : Int → Int) (T : List Int) (hh : Parts h P T) (room : Int) : ∀ (u : Tr) (up a : Int) (b : Bool), u ≠ .nil → u.keys.Nodup → (∀ x ∈ u.keys, x ∈ T ∧ P x = idf room a u x) → up ∈ T → (b = true → P up = a) → (b = false → a = top1 u ∧ P up ∉ u.keys) → (a = top1 u ∨ a ∉ u.keys) →
    (apL h (some up) u).Perm ((((er room u).map (·.1)) ++ (if b = true then [] else [top1 u])).map fun c => (h c : Int))
  | .nil, _, _, _, hu, _, _, _, _, _, _ => absurd rfl hu
  | .node l k r, up, a, b, _, hn, hP, hup, hb1, hb2, ha => by
    obtain ⟨n1, n2, n3, n4, n5⟩ := nd_node hn
    have hk : k ∈ (Tr.node l k r).keys := by simp [Tr.keys]
    have hPk : P k = a := by rw [(hP k hk).2, idf, if_pos rfl]
    have hkT := (hP k hk).1
    have own : (if h up ≠ h k then [(h k : Int)] else []) = (if b = true then [] else [top1 (.node l k r)]).map fun c => (h c : Int) := by
      cases b with
      | true =>
        have : h up = h k := (hh up hup k hkT).mpr (by rw [hb1 rfl, hPk])
        rw [if_neg (by simp [this])]; rfl
      | false =>
        have hne : h up ≠ h k := fun e => by
          have := (hh up hup k hkT).mp e
          rw [hPk, (hb2 rfl).1] at this
          exact (hb2 rfl).2 (by rw [this]; simp [top1, Tr.keys])
        rw [if_pos hne]; rfl
    have kid : ∀ v : Tr, (v = l ∨ v = r) → (∀ x ∈ v.keys, x ∈ T ∧ P x = idf room (if tie room l k r v then a else top1 v) v x) → v.keys.Nodup → (∀ y ∈ v.keys, y ∈ (Tr.node l k r).keys) → k ∉ v.keys →
        (v ≠ .nil → (apL h (some k) v).Perm ((((er room v).map (·.1)) ++ (if tie room l k r v = true then [] else [top1 v])).map fun c => (h c : Int))) →
        (apL h (some k) v).Perm (((er room v ++ (if tie room l k r v = true then [] else v.key?.map fun c => (c, hd room v))).map (·.1)).map fun c => (h c : Int)) := fun v hv hPv nv sub kv ih => by
      by_cases hvn : v = .nil
      · subst hvn
        have : (if tie room l k r .nil = true then ([] : List (Int × List Int)) else Tr.nil.key?.map fun c => (c, hd room .nil)) = [] := by split <;> rfl
        rw [this]; exact .refl _
      · refine (ih hvn).trans (List.Perm.of_eq ?_)
        cases tie room l k r v <;> simp [key_top hvn]
    have Pl : ∀ x ∈ l.keys, x ∈ T ∧ P x = idf room (if tie room l k r l then a else top1 l) l x := fun x hx => by
      have hx' : x ∈ (Tr.node l k r).keys := by simp [Tr.keys, hx]
      refine ⟨(hP x hx').1, ?_⟩
      rw [(hP x hx').2, idf, if_neg (fun z => n3 (by rw [← z]; exact hx)), if_pos hx]
    have Pr : ∀ x ∈ r.keys, x ∈ T ∧ P x = idf room (if tie room l k r r then a else top1 r) r x := fun x hx => by
      have hx' : x ∈ (Tr.node l k r).keys := by simp [Tr.keys, hx]
      refine ⟨(hP x hx').1, ?_⟩
      rw [(hP x hx').2, idf, if_neg (fun z => n4 (by rw [← z]; exact hx)), if_neg (fun hl => n5 x hl hx)]
    have aout : ∀ v : Tr, (∀ y ∈ v.keys, y ∈ (Tr.node l k r).keys) → k ∉ v.keys → a ∉ v.keys := fun v sub kv hav => by
      rcases ha with z | z
      · rw [z] at hav; exact kv hav
      · exact z (sub a hav)
    have Ll := kid l (.inl rfl) Pl n1 (fun y hy => by simp [Tr.keys, hy]) n3 fun hne => ap_side h P T hh room l k (if tie room l k r l then a else top1 l) (tie room l k r l) hne n1 Pl hkT (fun e => by rw [if_pos e]; exact hPk) (fun e => ⟨by rw [if_neg (by simp [e])], by rw [hPk]; exact aout l (fun y hy => by simp [Tr.keys, hy]) n3⟩) (by
      split
      · exact .inr (aout l (fun y hy => by simp [Tr.keys, hy]) n3)
      · exact .inl rfl)
    have Lr := kid r (.inr rfl) Pr n2 (fun y hy => by simp [Tr.keys, hy]) n4 fun hne => ap_side h P T hh room r k (if tie room l k r r then a else top1 r) (tie room l k r r) hne n2 Pr hkT (fun e => by rw [if_pos e]; exact hPk) (fun e => ⟨by rw [if_neg (by simp [e])], by rw [hPk]; exact aout r (fun y hy => by simp [Tr.keys, hy]) n4⟩) (by
      split
      · exact .inr (aout r (fun y hy => by simp [Tr.keys, hy]) n4)
      · exact .inl rfl)
    rw [apL, own, er, List.map_append, List.map_append]
    refine (((List.Perm.refl _).append Ll).append Lr).trans ?_
    rw [List.append_assoc]
    exact List.perm_append_comm.trans (List.Perm.of_eq (by simp [List.map_append, List.append_assoc]))
theorem ap_all (h : Int → Nat) (room : Int) {t : Tr} (hn : t.keys.Nodup) (hh : Parts h (pid room t) t.keys) (hne : t ≠ .nil) : ((h (top1 t) : Int) :: apL h none t).Perm (((en room t).map (·.1)).map fun c => (h c : Int)) := by
  cases t with
  | nil => exact absurd rfl hne
  | node l k r =>
    obtain ⟨n1, n2, n3, n4, n5⟩ := nd_node hn
    have hk : k ∈ (Tr.node l k r).keys := by simp [Tr.keys]
    have hPk : pid room (.node l k r) k = k := by unfold pid; simp [idf, top1]
    have kid : ∀ v : Tr, (v ≠ .nil → (apL h (some k) v).Perm ((((er room v).map (·.1)) ++ (if tie room l k r v = true then [] else [top1 v])).map fun c => (h c : Int))) →
        (apL h (some k) v).Perm (((er room v ++ (if tie room l k r v = true then [] else v.key?.map fun c => (c, hd room v))).map (·.1)).map fun c => (h c : Int)) := fun v ih => by
      by_cases hvn : v = .nil
      · subst hvn
        have : (if tie room l k r .nil = true then ([] : List (Int × List Int)) else Tr.nil.key?.map fun c => (c, hd room .nil)) = [] := by split <;> rfl
        rw [this]; exact .refl _
      · refine (ih hvn).trans (List.Perm.of_eq ?_)
        cases tie room l k r v <;> simp [key_top hvn]
    have Pl : ∀ x ∈ l.keys, x ∈ (Tr.node l k r).keys ∧ pid room (.node l k r) x = idf room (if tie room l k r l then k else top1 l) l x := fun x hx => by
      refine ⟨by simp [Tr.keys, hx], ?_⟩
      unfold pid
      rw [idf, if_neg (fun z => n3 (by rw [← z]; exact hx)), if_pos hx]; rfl
    have Pr : ∀ x ∈ r.keys, x ∈ (Tr.node l k r).keys ∧ pid room (.node l k r) x = idf room (if tie room l k r r then k else top1 r) r x := fun x hx => by
      refine ⟨by simp [Tr.keys, hx], ?_⟩
      unfold pid
      rw [idf, if_neg (fun z => n4 (by rw [← z]; exact hx)), if_neg (fun hl => n5 x hl hx)]; rfl
    have Ll := kid l fun hne => ap_side h _ _ hh room l k (if tie room l k r l then k else top1 l) (tie room l k r l) hne n1 Pl hk (fun e => by rw [if_pos e]; exact hPk) (fun e => ⟨by rw [if_neg (by simp [e])], by rw [hPk]; exact n3⟩) (by
      split
      · exact .inr n3
      · exact .inl rfl)
    have Lr := kid r fun hne => ap_side h _ _ hh room r k (if tie room l k r r then k else top1 r) (tie room l k r r) hne n2 Pr hk (fun e => by rw [if_pos e]; exact hPk) (fun e => ⟨by rw [if_neg (by simp [e])], by rw [hPk]; exact n4⟩) (by
      split
      · exact .inr n4
      · exact .inl rfl)
    unfold en
    rw [apL, er, List.map_append, List.map_append, List.map_append, List.map_append]
    refine ((List.Perm.cons _ ((Ll.append Lr)))).trans ?_
    exact (List.perm_append_comm (l₁ := [(h k : Int)])).trans (List.Perm.of_eq rfl)
theorem rise_range : ∀ (xs : List Int), xs.Pairwise (· < ·) → (∀ x ∈ xs, 0 ≤ x ∧ x < xs.length) → xs = (List.range xs.length).map fun i : Nat => (i : Int) := by
  intro xs hp hb
  have lo : ∀ i (hi : i < xs.length), (i : Int) ≤ xs[i] := fun i => by
    induction i with
    | zero => intro hi; exact (hb _ (List.getElem_mem hi)).1
    | succ i ih =>
      intro hi
      have h1 := ih (by lia)
      have h2 := List.pairwise_iff_getElem.mp hp i (i + 1) (by lia) hi (by lia)
      lia
  have hi' : ∀ j i (hi : i < xs.length), i + j + 1 = xs.length → xs[i] ≤ (i : Int) := fun j => by
    induction j with
    | zero =>
      intro i hi e
      have := (hb _ (List.getElem_mem hi)).2
      lia
    | succ j ih =>
      intro i hi e
      have h1 := ih (i + 1) (by lia) (by lia)
      have h2 := List.pairwise_iff_getElem.mp hp i (i + 1) hi (by lia) (by lia)
      lia
  refine List.ext_getElem (by simp) fun i h1 h2 => ?_
  have a := lo i h1
  have b := hi' (xs.length - 1 - i) i h1 (by lia)
  simp
  lia
end K43C
namespace K43C
open PySem L2 L3
theorem page_of {room : Int} {t : Tr} {L : List (List Int)} (hl : Laid room t L) {p : List Int} (hp : p ∈ L) : ∃ e ∈ en room t, p = so e.2 := by
  obtain ⟨q, hq, rfl⟩ := List.mem_map.mp (hl.perm.mem_iff.mp hp)
  obtain ⟨e, he, rfl⟩ := List.mem_map.mp hq
  exact ⟨e, he, rfl⟩
theorem page_len {room : Int} (hr : 1 ≤ room) {t : Tr} {L : List (List Int)} (hl : Laid room t L) {p : List Int} (hp : p ∈ L) : 1 ≤ p.length ∧ (p.length : Int) ≤ room := by
  obtain ⟨e, he, rfl⟩ := page_of hl hp
  rw [(so_perm e.2).length_eq]
  exact ⟨List.length_pos_of_mem (en_top he), en_size hr he⟩
theorem pid_self {room : Int} {t : Tr} (hn : t.keys.Nodup) {e : Int × List Int} (he : e ∈ en room t) : pid room t e.1 = e.1 := by
  obtain ⟨p, h1, h2⟩ := pid_page room hn (en_keys he)
  exact congrArg Prod.fst (en_one hn h1 he h2 (en_top he))
theorem nd_le : ∀ {ms : List Int}, ms.Nodup → ms.Pairwise (· ≤ ·) → ms.Pairwise (· < ·)
  | [], _, _ => .nil
  | m :: ms, h1, h2 => by
    obtain ⟨a, b⟩ := List.nodup_cons.mp h1
    obtain ⟨c, d⟩ := List.pairwise_cons.mp h2
    refine List.pairwise_cons.mpr ⟨fun x hx => ?_, nd_le b d⟩
    have h3 := c x hx
    have h4 : m ≠ x := fun z => a (by rw [z]; exact hx)
    lia
theorem apart_range {room : Int} {t : Tr} {L : List (List Int)} (hl : Laid room t L) (hne : t ≠ .nil) {ms : List Int} (pm : ms.Perm ((numP L (top1 t) : Int) :: apL (numP L) none t)) (ps : ms.Pairwise (· ≤ ·)) : ms = (List.range L.length).map fun i : Nat => (i : Int) := by
  have pa := pm.trans (ap_all (numP L) room hl.nd (fun x hx y hy => hl.home hx hy) hne)
  have hlen : ms.length = L.length := by rw [pa.length_eq, hl.len, List.length_map, List.length_map]
  have hnd : ms.Nodup := by
    rw [pa.nodup_iff]
    rw [List.map_map]
    refine List.pairwise_map.mpr ?_
    have h1 := en_nodup (room := room) hl.nd
    have h2 : (en room t).Pairwise fun a b => a.1 ≠ b.1 := List.pairwise_map.mp h1
    refine h2.imp_of_mem fun {a b} ha hb hab z => hab ?_
    have z' : numP L a.1 = numP L b.1 := by
      have : ((numP L a.1 : Nat) : Int) = ((numP L b.1 : Nat) : Int) := z
      lia
    have := (hl.home (en_keys ha) (en_keys hb)).mp z'
    rwa [pid_self hl.nd ha, pid_self hl.nd hb] at this
  have := rise_range ms (nd_le hnd ps) fun x hx => by
    rw [hlen]
    obtain ⟨c, hc, rfl⟩ := List.mem_map.mp (pa.mem_iff.mp hx)
    obtain ⟨e, he, rfl⟩ := List.mem_map.mp hc
    have := (numP_lt (pss := L) (y := e.1) (hl.flat.mem_iff.mpr (en_keys he))).1
    lia
  rw [hlen] at this
  exact this
end K43C
namespace K43C
open PySem L2 L3
noncomputable def wdS (pt : Int → Bool) : Tr → Int
  | .nil => 0
  | .node l k r => max 1 (max (wdS pt l + (if pt (top1 l) = true then 1 else 0)) (wdS pt r + (if pt (top1 r) = true then 1 else 0)))
theorem rule_one (m : Int × Int) (room : Int) : ruleM [m] room = if 1 + m.2 ≤ room then (m.1, 1 + m.2) else (m.1 + 1, 1) := by
  simp [ruleM, maxI]
theorem rule_two (m n : Int × Int) (room : Int) : (m.1 = n.1 ∧ ruleM [m, n] room = if 1 + (m.2 + n.2) ≤ room then (m.1, 1 + (m.2 + n.2)) else (m.1 + 1, 1)) ∨ (n.1 < m.1 ∧ ruleM [m, n] room = if 1 + m.2 ≤ room then (m.1, 1 + m.2) else (m.1 + 1, 1)) ∨ (m.1 < n.1 ∧ ruleM [m, n] room = if 1 + n.2 ≤ room then (n.1, 1 + n.2) else (n.1 + 1, 1)) := by
  have h0 : ruleM [m, n] room = (let lv := max m.1 n.1
    let sz := 1 + (([m, n].filter fun p => decide (p.1 = lv)).map (·.2)).sum
    if sz ≤ room then (lv, sz) else (lv + 1, 1)) := by simp [ruleM, maxI]
  rw [h0]
  dsimp only
  rcases Int.lt_trichotomy m.1 n.1 with h | h | h
  · right; right
    refine ⟨h, ?_⟩
    have hm : max m.1 n.1 = n.1 := by lia
    rw [hm, List.filter_cons_of_neg (by simp; lia), List.filter_cons_of_pos (by simp)]
    simp
  · left
    refine ⟨h, ?_⟩
    have hm : max m.1 n.1 = m.1 := by lia
    rw [hm, List.filter_cons_of_pos (by simp), List.filter_cons_of_pos (by simp [h])]
    simp
  · right; left
    refine ⟨h, ?_⟩
    have hm : max m.1 n.1 = m.1 := by lia
    rw [hm, List.filter_cons_of_pos (by simp), List.filter_cons_of_neg (by simp; lia)]
    simp
noncomputable def Ag (room : Int) (pt : Int → Bool) : Tr → Prop
  | .nil => True
  | .node l k r => (l ≠ .nil → pt (top1 l) = !tie room l k r l) ∧ (r ≠ .nil → pt (top1 r) = !tie room l k r r) ∧ Ag room pt l ∧ Ag room pt r
theorem ag_wd (room : Int) (pt : Int → Bool) : ∀ t : Tr, t ≠ .nil → Ag room pt t → wdS pt t = lev room t
  | .nil, h, _ => absurd rfl h
  | .node l k r, _, ⟨h1, h2, h3, h4⟩ => by
    obtain ⟨q1, q2⟩ := lev_rule room l k r
    have il : l ≠ .nil → wdS pt l = lev room l := fun h => ag_wd room pt l h h3
    have ir : r ≠ .nil → wdS pt r = lev room r := fun h => ag_wd room pt r h h4
    have kid : ∀ u : Tr, (u = l ∨ u = r) → (u ≠ .nil → pt (top1 u) = !tie room l k r u) → (u ≠ .nil → wdS pt u = lev room u) → u ≠ .nil → (wdS pt u + (if pt (top1 u) = true then 1 else 0) ≤ lev room (.node l k r)) ∧ ((tie room l k r u = true ∨ lev room u + 1 = lev room (.node l k r)) → wdS pt u + (if pt (top1 u) = true then 1 else 0) = lev room (.node l k r)) := fun u hu hp ih hn => by
      obtain ⟨z1, z2⟩ := q1 u hu hn
      rw [hp hn, ih hn]
      cases ht : tie room l k r u with
      | true => have := z1 ht; simp; lia
      | false => have := z2 ht; simp; lia
    have kl := kid l (.inl rfl) h1 il
    have kr := kid r (.inr rfl) h2 ir
    have np : ∀ u : Tr, u = .nil → wdS pt u + (if pt (top1 u) = true then 1 else 0) ≤ 1 := fun u z => by
      subst z
      rw [show wdS pt .nil = 0 from rfl]
      split <;> simp
    have hp := lev_pos room (t := .node l k r) (fun z => nomatch z)
    rw [wdS]
    have nl := np l
    have nr := np r
    clear kid np il ir q1 h1 h2
    generalize wdS pt l + (if pt (top1 l) = true then 1 else 0) = A at *
    generalize wdS pt r + (if pt (top1 r) = true then 1 else 0) = B at *
    generalize lev room (.node l k r) = L at *
    rcases q2 with ⟨e1, e2, e3⟩ | ⟨u, hu, hn, h⟩
    · have a1 := nl e1
      have a2 := nr e2
      lia
    · have ul : A ≤ L := by
        by_cases z : l = .nil
        · have := nl z; lia
        · exact (kl z).1
      have ur : B ≤ L := by
        by_cases z : r = .nil
        · have := nr z; lia
        · exact (kr z).1
      clear nl nr
      rcases hu with rfl | rfl
      · have := (kl hn).2 h; lia
      · have := (kr hn).2 h; lia
noncomputable def upT : Tr → List (Int × Int)
  | .nil => []
  | .node l k r => (l.key?.map fun c => (c, k)) ++ upT l ++ ((r.key?.map fun c => (c, k)) ++ upT r)
theorem ag_of (h : Int → Nat) (P : Int → Int) (T : List Int) (hh : Parts h P T) (room : Int) (pt : Int → Bool) : ∀ (u : Tr) (a : Int), u.keys.Nodup → (∀ x ∈ u.keys, x ∈ T ∧ P x = idf room a u x) → (a = top1 u ∨ a ∉ u.keys) → (∀ e ∈ upT u, pt e.1 = decide (h e.1 ≠ h e.2)) → Ag room pt u
  | .nil, _, _, _, _, _ => trivial
  | .node l k r, a, hn, hP, ha, hpt => by
    obtain ⟨n1, n2, n3, n4, n5⟩ := nd_node hn
    have hk : k ∈ (Tr.node l k r).keys := by simp [Tr.keys]
    have hPk : P k = a := by rw [(hP k hk).2, idf, if_pos rfl]
    have hkT := (hP k hk).1
    have Pl : ∀ x ∈ l.keys, x ∈ T ∧ P x = idf room (if tie room l k r l then a else top1 l) l x := fun x hx => by
      have hx' : x ∈ (Tr.node l k r).keys := by simp [Tr.keys, hx]
      refine ⟨(hP x hx').1, ?_⟩
      rw [(hP x hx').2, idf, if_neg (fun z => n3 (by rw [← z]; exact hx)), if_pos hx]
    have Pr : ∀ x ∈ r.keys, x ∈ T ∧ P x = idf room (if tie room l k r r then a else top1 r) r x := fun x hx => by
      have hx' : x ∈ (Tr.node l k r).keys := by simp [Tr.keys, hx]
      refine ⟨(hP x hx').1, ?_⟩
      rw [(hP x hx').2, idf, if_neg (fun z => n4 (by rw [← z]; exact hx)), if_neg (fun hl => n5 x hl hx)]
    have aout : ∀ v : Tr, (∀ y ∈ v.keys, y ∈ (Tr.node l k r).keys) → k ∉ v.keys → a ∉ v.keys := fun v sub kv hav => by
      rcases ha with z | z
      · rw [z] at hav; exact kv hav
      · exact z (sub a hav)
    have al := aout l (fun y hy => by simp [Tr.keys, hy]) n3
    have ar := aout r (fun y hy => by simp [Tr.keys, hy]) n4
    have kid : ∀ v : Tr, (∀ x ∈ v.keys, x ∈ T ∧ P x = idf room (if tie room l k r v then a else top1 v) v x) → a ∉ v.keys → (∀ c ∈ v.key?, pt c = decide (h c ≠ h k)) → v ≠ .nil → pt (top1 v) = !tie room l k r v := fun v hv hav hc hne => by
      rw [hc (top1 v) (by rw [key_top hne]; exact .head _)]
      obtain ⟨t1, t2⟩ := hv (top1 v) (top_mem hne)
      rw [idf_top room _ hne] at t2
      have iff := hh (top1 v) t1 k hkT
      rw [hPk, t2] at iff
      cases ht : tie room l k r v with
      | true =>
        rw [ht] at iff
        simp [iff.mpr (by simp)]
      | false =>
        rw [ht] at iff
        have : ¬ h (top1 v) = h k := fun z => by
          have := iff.mp z
          simp at this
          exact hav (by rw [← this]; exact top_mem hne)
        simp [this]
    have out : ∀ v : Tr, a ∉ v.keys → ((if tie room l k r v then a else top1 v) = top1 v ∨ (if tie room l k r v then a else top1 v) ∉ v.keys) := fun v hav => by
      split
      · exact .inr hav
      · exact .inl rfl
    refine ⟨kid l Pl al fun c hc => hpt (c, k) ?_, kid r Pr ar fun c hc => hpt (c, k) ?_, ag_of h P T hh room pt l _ n1 Pl (out l al) fun e he => hpt e ?_, ag_of h P T hh room pt r _ n2 Pr (out r ar) fun e he => hpt e ?_⟩
    · rw [upT]; exact List.mem_append_left _ (List.mem_append_left _ (List.mem_map.mpr ⟨c, hc, rfl⟩))
    · rw [upT]; exact List.mem_append_right _ (List.mem_append_left _ (List.mem_map.mpr ⟨c, hc, rfl⟩))
    · rw [upT]; exact List.mem_append_left _ (List.mem_append_right _ he)
    · rw [upT]; exact List.mem_append_right _ (List.mem_append_right _ he)
end K43C
namespace L3
open PySem L2
namespace Tr
end Tr
end L3
namespace HS
open PySem PySem.W PySem.Calls PyProof.Rows
section
variable {prog : Program} {w : World} {A : Around} {E : Value → Shared → Prop} {s : Shared} {T : String} {r d : Addr} {n : Nat} {P : Nat → Value → Prop} {OK : Heap → Prop}
theorem collectG {R : List Value → Shared → Prop} (src : KdlSrc prog w T r d n P OK) (calm : A.handled = none) (ok : OK s.heap) (small : n ≤ sizeLine)
    (k : ∀ (g : Heap) (tk : Nat) (xs : Array Value), (∀ b o, s.heap.get? b = some o → g.get? b = some o) → s.heap.objs.size < g.objs.size → ItemsOf P xs n → R xs.toList { s with heap := g, toks := tk }) :
    wpAny (model prog w) A (collect (.ref r)) R E s := by
  have lt := src.there _ ok
  unfold collect
  refine wpAny_bind (wpAny_runValue (codeAny_builtin entry_proto_collect' ?_))
  rw [Around.under_plainId PySem.F.plain_proto_collect _]
  show wpAny _ A.in1 (do again (.builtin "list.__iadd__" ⟨[← newList [], .ref r], []⟩)) _ _ s
  refine wpAny_bind (wpAny_newObj_type (wpAny_pure ⟨plainId_quiet PySem.F.plain_list_iadd _, codeAny_builtin entry_list_iadd' ?_⟩))
  rw [Around.under_plainId PySem.F.plain_list_iadd _]
  have first : (s.heap.push { cls := .type "list", data := .seq ([] : List Value).toArray }).get? s.heap.objs.size = some { cls := .type "list", data := .seq #[] } := Heap.get?_push_size _ rfl
  have run := kdl_extend (A := A) (s := { s with heap := s.heap.push { cls := .type "list", data := .seq ([] : List Value).toArray } })
    (R := fun (q : Result) (z : Shared) => ∃ (g : Heap) (tk : Nat) (xs : Array Value) (c : Nat), q = .ok (.ret (.ref s.heap.objs.size)) ∧ z = { s with heap := g, toks := tk } ∧
      (∀ b o, s.heap.get? b = some o → g.get? b = some o) ∧ g.get? s.heap.objs.size = some { cls := .type "list", dict := none, data := .seq xs c, slots := #[] } ∧ ItemsOf P xs n)
    src calm (src.keep _ _ ok fun b _ o e => Heap.get?_push_of_some _ e) s.heap.objs.size (Nat.ne_of_gt lt.1) (Nat.ne_of_gt lt.2) (.ref s.heap.objs.size) 0 first
    (fun g tk xs c kept at_ its => ⟨g, tk, xs, c, rfl, rfl, fun b o e => kept b o (Nat.ne_of_lt (Heap.lt_size e)) (Heap.get?_push_of_some _ e), at_, its⟩) small
  have last : ∀ {g : Heap} {tk : Nat} {xs : Array Value} {c : Nat}, (∀ b o, s.heap.get? b = some o → g.get? b = some o) → g.get? s.heap.objs.size = some { cls := .type "list", dict := none, data := .seq xs c, slots := #[] } → ItemsOf P xs n →
      wpAny (model prog w) A (load s.heap.objs.size >>= fun o => match o.data with | .seq xs _ => pure xs.toList | _ => unsupported "internal:collect") R E { s with heap := g, toks := tk } := fun kept at_ its =>
    wpAny_bind (wpAny_load at_ (wpAny_pure (k _ _ _ kept (Heap.lt_size at_) its)))
  refine wpAny_mono run (fun fin z x => ?_) fun e z x => ?_
  · cases fin with
    | done f =>
      obtain ⟨g, tk, xs, c, e, rfl, kept, at_, its⟩ := x
      cases e
      exact last kept at_ its
    | again c₁ =>
      refine ⟨x.1, codeAny_mono x.2 fun q z y => ?_⟩
      obtain ⟨g, tk, xs, c, rfl, rfl, kept, at_, its⟩ := y
      exact last kept at_ its
  · obtain ⟨_, _, _, _, e', _⟩ := x
    cases e'
theorem sortedD {ns : List Int} {Q : Value → Shared → Prop} (src : KdlSrc prog w T r d n P OK) (calm : A.in1.handled = none) (ok : OK s.heap) (small : n ≤ sizeLine) (few : n < 64) (intsOf : ∀ xs : Array Value, ItemsOf P xs n → IntsAre xs.toList ns)
    (k : ∀ (g : Heap) (tk a e : Nat) (out : Array Value) (ms : List Int), (∀ b o, s.heap.get? b = some o → g.get? b = some o) → s.heap.objs.size ≤ a → g.get? a = some (seqObj "list" out e) → IntsAre out.toList ms → ms.Perm ns → ms.Pairwise (· ≤ ·) → Q (.ref a) { s with heap := g, toks := tk }) :
    wpAny (model prog w) A (call (.builtin "sorted") [.ref r]) Q E s := by
  refine Calls.call_function_entry kind_sorted plain_sorted entry_sorted (args_sorted1 _) ?_
  unfold Builtin.«sorted»
  refine wpAny_bind (m := checkCount "sorted" 1 1 _) (wpAny_pure (wpAny_bind (collectG src calm ok small fun g tk xs kept grown its => ?_)))
  have hi := intsOf xs its
  have ln : xs.toList.length = n := by simpa using its.1
  refine wpAny_bind (wpAny_newList ?_ (by lia))
  have at1 : (g.push (seqObj "list" xs.toList.toArray 0)).get? g.objs.size = some (seqObj "list" xs.toList.toArray 0) := Heap.get?_push_size _ rfl
  show wpAny _ _ _ _ _ { s with heap := g.push (seqObj "list" xs.toList.toArray 0), toks := tk }
  refine wpAny_bind (wpAny_holding (wpAny_call_entry slot_list_sort ⟨_, at1, rfl⟩ entry_list_sort (list_sort_tree at1 hi (by lia) fun out ms a1 a2 a3 => ⟨_, rfl, ?_⟩) (args_list_sort _)))
  obtain ⟨e, he⟩ := sortedHeap_at (out := out) at1
  refine wpAny_pure ⟨_, rfl, k _ tk _ e out ms (fun b o q => ?_) (Nat.le_of_lt grown) he a1 a2 a3⟩
  have lb : b < g.objs.size := Heap.lt_size (kept b o q)
  show (sortedHeap (g.push (seqObj "list" xs.toList.toArray 0)) g.objs.size xs.toList out).get? b = some o
  rw [sortedHeap_old (Nat.ne_of_lt lb) (by rw [size_push']; exact Nat.lt_succ_of_lt lb)]
  exact Heap.get?_push_of_some _ (kept b o q)
end
end HS
namespace L3
open PySem PySem.Spec PyProof.Rows L2
section
variable {X : Cx}
noncomputable def rSortD : List V → Hp → VK → Prop := fun xs H Q => ∃ (d : Addr) (kvs : List (Key × V)) (ns : List Int), xs = [.ref d] ∧ Rd H d (.dK kvs) ∧ kvs.map (·.1) = ns.map Sum.inl ∧ ns.length < 64 ∧
  ∀ (q : Addr) (H' : Hp) (ms : List Int), H q = none → Same H H' → H' q = some (.lst (ms.map V.int)) → ms.Perm ns → ms.Pairwise (· ≤ ·) → Q (.ref q) H'
theorem call_sortD (hc : X.calm = true) : CallR X (.builtin "sorted") rSortD := by
  intro pins s σ H xs us Q I rv h
  obtain ⟨d, kvs, ns, rfl, e, hk, hn, q⟩ := h
  obtain ⟨u, rfl, ru⟩ := vals1 rv
  cases ru
  obtain ⟨z, hd, vs, rel, o, es, ep, h1, h2, h3, h4, h5, h6⟩ := dk_rd I.hok e
  have hlen : kvs.length = vs.length := Paired.length rel
  have hkn : kvs.length = ns.length := by have := congrArg List.length hk; simpa using this
  have keys : vs.map (·.1) = ns.map Sum.inl := by
    rw [← hk]
    have : ∀ {kvs : List (Key × V)} {vs : List (Key × Value)}, KV kvs vs → vs.map (·.1) = kvs.map (·.1) := by
      intro kvs vs r
      unfold KV at r
      induction r with
      | nil => rfl
      | cons h t ih => rw [List.map_cons, List.map_cons, ih, h.1]
    exact this rel
  refine HS.sortedD (ns := ns) (PySem.W.kdl_dict (knd := mixKind X.prog X.w) (kvs := vs) (ep := ep) hd) (I.ok.hd hc) ⟨o, es, h1, h2, h3, h4, h5, h6⟩ (by lia) (by lia) (fun acc its => ?_) fun g tk a en out ms kept ge ga i1 i2 i3 => ?_
  · have l9 : acc.toList.length = vs.length := by simpa using its.1
    refine intsAre_of (vals_of (by rw [List.length_map]; lia) fun j x v e1 e2 => ?_)
    rw [List.getElem?_map] at e1
    obtain ⟨m, hm, rfl⟩ := Option.map_eq_some_iff.mp e1
    rw [Array.getElem?_toList] at e2
    obtain ⟨k, y, h7, h8⟩ := its.2 j v e2
    have : (vs.map (·.1))[j]? = some (Sum.inl m) := by rw [keys, List.getElem?_map, hm]; rfl
    rw [List.getElem?_map, h7] at this
    have hk' : k = Sum.inl m := by simpa using this
    subst hk'
    exact (keyRel (k := Sum.inl m) (show keyIs (Sum.inl m) v = true from h8) :)
  · have hf : H a = none := I.hok.fresh ge
    have lm : ms.length = ns.length := i2.length_eq
    exact ⟨.ref a, _, I.laid (t' := tk) (o := .lst (ms.map V.int)) kept ge ⟨by rw [List.length_map]; exact Nat.le_of_lt (Nat.lt_of_lt_of_le (by lia : ms.length < 64) (by decide)), out.toList, en, vals_of_ints i1, ga⟩, rfl, q _ _ ms hf (same_new hf) upd_same i2 i3⟩
theorem fSortD (hc : X.calm = true := by rfl) : RCall X (.builtin "sorted") rSortD := .mk (call_sortD hc)
end
end L3
namespace K43
open PySem L2 L3
noncomputable def top (i : Nat) : Stmt := PySem.Challenge.pw_leafpages_k43_least_rooms.main.body.getD i (.Pass ⟨0, 0, 0, 0⟩)
noncomputable abbrev s_keys_of : Stmt := top 10
theorem sc_keys_of : FnScope ["tree"] ["tree"] (defScope s_keys_of) := ⟨rfl, rfl, rfl, by decide +kernel, rfl, by decide +kernel, by decide +kernel⟩
noncomputable abbrev s_with_kids : Stmt := top 11
theorem sc_with_kids : FnScope ["tree", "kids"] ["tree"] (defScope s_with_kids) := ⟨rfl, rfl, rfl, by decide +kernel, rfl, by decide +kernel, by decide +kernel⟩
noncomputable abbrev s_pages_tied : Stmt := top 13
theorem sc_pages_tied : FnScope ["tree", "tied", "pages", "key", "kids", "page", "kid"] ["tree", "tied"] (defScope s_pages_tied) := ⟨rfl, rfl, rfl, by decide +kernel, rfl, by decide +kernel, by decide +kernel⟩
noncomputable abbrev s_mark_from : Stmt := top 15
theorem sc_mark_from : FnScope ["kid_marks", "room", "level", "size"] ["kid_marks", "room"] (defScope s_mark_from) := ⟨rfl, rfl, rfl, by decide +kernel, rfl, by decide +kernel, by decide +kernel⟩
noncomputable abbrev s_marks_by_key : Stmt := top 16
theorem sc_marks_by_key : FnScope ["tree", "room", "told", "key", "kids"] ["tree", "room"] (defScope s_marks_by_key) := ⟨rfl, rfl, rfl, by decide +kernel, rfl, by decide +kernel, by decide +kernel⟩
noncomputable abbrev s_marks : Stmt := top 17
theorem sc_marks : FnScope ["tree", "room", "told"] ["tree", "room"] (defScope s_marks) := ⟨rfl, rfl, rfl, by decide +kernel, rfl, by decide +kernel, by decide +kernel⟩
noncomputable abbrev s_tied_pairs : Stmt := top 18
theorem sc_tied_pairs : FnScope ["tree", "told", "pairs", "key", "kids"] ["tree", "told"] (defScope s_tied_pairs) := ⟨rfl, rfl, rfl, by decide +kernel, rfl, by decide +kernel, by decide +kernel⟩
noncomputable abbrev s_by_marks : Stmt := top 19
theorem sc_by_marks : FnScope ["tree", "room", "pairs"] ["tree", "room"] (defScope s_by_marks) := ⟨rfl, rfl, rfl, by decide +kernel, rfl, by decide +kernel, by decide +kernel⟩
noncomputable abbrev s_top_level : Stmt := top 20
theorem sc_top_level : FnScope ["tree", "told"] ["tree", "told"] (defScope s_top_level) := ⟨rfl, rfl, rfl, by decide +kernel, rfl, by decide +kernel, by decide +kernel⟩
noncomputable abbrev s_worst_by_marks : Stmt := top 21
theorem sc_worst_by_marks : FnScope ["tree", "room"] ["tree", "room"] (defScope s_worst_by_marks) := ⟨rfl, rfl, rfl, by decide +kernel, rfl, by decide +kernel, by decide +kernel⟩
noncomputable abbrev s_shows_worst : Stmt := top 22
theorem sc_shows_worst : FnScope ["tree", "room", "table", "number", "told", "key", "level", "size", "kids"] ["tree", "room", "table", "number"] (defScope s_shows_worst) := ⟨rfl, rfl, rfl, by decide +kernel, rfl, by decide +kernel, by decide +kernel⟩
noncomputable abbrev s_least_room : Stmt := top 24
theorem sc_least_room : FnScope ["tree", "number", "room", "table"] ["tree", "number"] (defScope s_least_room) := ⟨rfl, rfl, rfl, by decide +kernel, rfl, by decide +kernel, by decide +kernel⟩
noncomputable abbrev s_law_pen : Stmt := top 26
theorem sc_law_pen : FnScope ["_law_script", "_law_k", "_law_cell"] ["_law_script", "_law_k"] (defScope s_law_pen) := ⟨rfl, rfl, rfl, by decide +kernel, rfl, by decide +kernel, by decide +kernel⟩
noncomputable abbrev s_law_draw : Stmt := top 27
theorem sc_law_draw : FnScope ["_law_pen_here", "_law_many", "_law_drawn", "_law_number"] ["_law_pen_here", "_law_many"] (defScope s_law_draw) := ⟨rfl, rfl, rfl, by decide +kernel, rfl, by decide +kernel, by decide +kernel⟩
noncomputable abbrev s_law_put : Stmt := top 28
theorem sc_law_put : FnScope ["_law_tree_here", "_law_key"] ["_law_tree_here", "_law_key"] (defScope s_law_put) := ⟨rfl, rfl, rfl, by decide +kernel, rfl, by decide +kernel, by decide +kernel⟩
noncomputable abbrev s_law_keys : Stmt := top 29
theorem sc_law_keys : FnScope ["_law_pen_here", "_law_many", "_law_far", "_law_wide", "_law_key", "_law_keys_here", "_law_k"] ["_law_pen_here", "_law_many"] (defScope s_law_keys) := ⟨rfl, rfl, rfl, by decide +kernel, rfl, by decide +kernel, by decide +kernel⟩
noncomputable abbrev s_law_low : Stmt := top 30
theorem sc_law_low : FnScope ["_law_keys_here", "_law_half"] ["_law_keys_here"] (defScope s_law_low) := ⟨rfl, rfl, rfl, by decide +kernel, rfl, by decide +kernel, by decide +kernel⟩
noncomputable abbrev s_law_tree : Stmt := top 31
theorem sc_law_tree : FnScope ["_law_pen_here", "_law_keys_here", "_law_tree_here", "_law_form", "_law_left", "_law_at"] ["_law_pen_here", "_law_keys_here"] (defScope s_law_tree) := ⟨rfl, rfl, rfl, by decide +kernel, rfl, by decide +kernel, by decide +kernel⟩
noncomputable abbrev s_law_ups : Stmt := top 32
theorem sc_law_ups : FnScope ["_law_tree_here", "_law_up", "_law_ups_here"] ["_law_tree_here", "_law_up", "_law_ups_here"] (defScope s_law_ups) := ⟨rfl, rfl, rfl, by decide +kernel, rfl, by decide +kernel, by decide +kernel⟩
noncomputable abbrev s_law_mark : Stmt := top 33
theorem sc_law_mark : FnScope ["_law_kids", "_law_room", "_law_level_here", "_law_size"] ["_law_kids", "_law_room"] (defScope s_law_mark) := ⟨rfl, rfl, rfl, by decide +kernel, rfl, by decide +kernel, by decide +kernel⟩
noncomputable abbrev s_law_level : Stmt := top 34
theorem sc_law_level : FnScope ["_law_ups_here", "_law_room", "_law_kids", "_law_level_here", "_law_key", "_law_mark_here"] ["_law_ups_here", "_law_room"] (defScope s_law_level) := ⟨rfl, rfl, rfl, by decide +kernel, rfl, by decide +kernel, by decide +kernel⟩
noncomputable abbrev s_law_is_row : Stmt := top 35
theorem sc_law_is_row : FnScope ["_law_row"] ["_law_row"] (defScope s_law_is_row) := ⟨rfl, rfl, rfl, by decide +kernel, rfl, by decide +kernel, by decide +kernel⟩
noncomputable abbrev s_law_table_right : Stmt := top 36
theorem sc_law_table_right : FnScope ["_law_ups_here", "_law_room", "_law_table", "_law_number", "_law_told", "_law_kids", "_law_key"] ["_law_ups_here", "_law_room", "_law_table", "_law_number"] (defScope s_law_table_right) := ⟨rfl, rfl, rfl, by decide +kernel, rfl, by decide +kernel, by decide +kernel⟩
noncomputable abbrev s_law_layout_right : Stmt := top 37
theorem sc_law_layout_right : FnScope ["_law_ups_here", "_law_room", "_law_layout", "_law_number", "_law_spots", "_law_at", "_law_page", "_law_key", "_law_opened", "_law_heads", "_law_up"] ["_law_ups_here", "_law_room", "_law_layout", "_law_number"] (defScope s_law_layout_right) := ⟨rfl, rfl, rfl, by decide +kernel, rfl, by decide +kernel, by decide +kernel⟩
noncomputable abbrev s_law_right : Stmt := top 38
theorem sc_law_right : FnScope ["_law_tree_here", "_law_ups_here", "_law_number", "_law_told", "_law_room", "_law_layout", "_law_table"] ["_law_tree_here", "_law_ups_here", "_law_number"] (defScope s_law_right) := ⟨rfl, rfl, rfl, by decide +kernel, rfl, by decide +kernel, by decide +kernel⟩
noncomputable abbrev s_law_refused : Stmt := top 39
theorem sc_law_refused : FnScope ["_law_tree_here", "_law_number", "_law_caught", "e"] ["_law_tree_here", "_law_number"] (defScope s_law_refused) := ⟨rfl, rfl, rfl, by decide +kernel, rfl, by decide +kernel, by decide +kernel⟩
noncomputable abbrev s_law : Stmt := top 40
theorem sc_law : FnScope ["_law_script", "_law_pen_here", "_law_keys_here", "_law_tree_here", "_law_ups_here", "_law_number", "_law_told", "_law_two"] ["_law_script"] (defScope s_law) := ⟨rfl, rfl, rfl, by decide +kernel, rfl, by decide +kernel, by decide +kernel⟩
structure Tx (K : PySem.W.Frag) (mg : Str → Option Value) : Prop where
  b_ValueError : mg "ValueError" = none
  b_all : mg "all" = none
  b_bool : mg "bool" = none
  b_dict : mg "dict" = none
  b_enumerate : mg "enumerate" = none
  b_int : mg "int" = none
  b_isinstance : mg "isinstance" = none
  b_len : mg "len" = none
  b_list : mg "list" = none
  b_max : mg "max" = none
  b_min : mg "min" = none
  b_range : mg "range" = none
  b_reversed : mg "reversed" = none
  b_sorted : mg "sorted" = none
  b_sum : mg "sum" = none
  b_tuple : mg "tuple" = none
noncomputable def spPen (K : PySem.W.Frag) : Sp := fun vs H Q _ => ∃ (a : Addr) (k : Int) (ns : List Int), vs = [.ref a, .int k] ∧ SqL K H a (ns.map V.int) ∧ ns.length ≤ 63 ∧ 0 ≤ k ∧ k ≤ 63 ∧ ∀ p H', H p = none → Same H H' → Pen3 H' p → Q (.ref p) H'
noncomputable def spDraw : Sp := fun vs H Q _ => ∃ (p : Addr) (c : Int), vs = [.ref p, .int c] ∧ Pen3 H p ∧ 0 < c ∧ c < 10 ^ 100 ∧ ∀ r H', 0 ≤ r → r < c → Pen3 H' p → Same (rm p H) H' → Q (.int r) H'
noncomputable def Rise (xs : List Int) : Prop := xs.Pairwise (· < ·)
noncomputable def spKeys : Sp := fun vs H Q _ => ∃ (p : Addr) (n : Int), vs = [.ref p, .int n] ∧ Pen3 H p ∧ 0 ≤ n ∧ n ≤ 60 ∧ ∀ (r : Addr) (H' : Hp) (xs : List Int), H r = none → Same (rm p H) H' → Pen3 H' p → H' r = some (.lst (xs.map V.int)) → Rise xs → (xs.length : Int) = n → Q (.ref r) H'
theorem rise_snoc {xs : List Int} {x : Int} (h : Rise xs) (hx : ∀ y ∈ xs, y < x) : Rise (xs ++ [x]) := by
  unfold Rise
  rw [List.pairwise_append]
  exact ⟨h, by simp, fun a ha b hb => by rw [List.mem_singleton] at hb; subst hb; exact hx a ha⟩
section
variable {P : Program} {w : World} {K : PySem.W.Frag} {mg : Str → Option Value} {base : Heap}
theorem ok_draw {f : Addr} (F : Fd K mg "_law_draw" s_law_draw f) (T : Tx K mg) : Cal P w K mg base CX0 1 "_law_draw" spDraw := by
  refine F.cal sc_law_draw (fun _ _ _ _ _ _ us hl => L3.bind2 (fun _ _ => rfl) us hl) (fun vs H Q E h => ?_) (fun cdv A outer s H vs Q E hr h => ?_)
  · obtain ⟨p, c, rfl, _⟩ := h; rfl
  · obtain ⟨p, c, rfl, ⟨m, n, d, hp⟩, hc, hc2, k⟩ := h
    have hcB : CDivB m c := ⟨hc, Int.lt_trans hc2 (by decide +kernel)⟩
    refine ⟨_, (bcons (sasg (qop rAdd (qix (xIx K) (qv 0) qint (fun _ _ => rfl)) qint) (gsub (qv 0) qint xSet))
      (bcons (sif (tcmp rGt (qix (xIx K) (qv 0) qint (fun _ _ => rfl)) qint (nomark _)) (bcons (sset (i := 2) sc_law_draw.nd rfl (by first | exact Or.inl rfl | exact Or.inr rfl) (qop rMod (qix (xIx K) (qv 0) qint (fun _ _ => rfl)) (qv 1)))
        (bcons (sasg (qop rDivB (qix (xIx K) (qv 0) qint (fun _ _ => rfl)) (qv 1)) (gsub (qv 0) qint xSet))
        (bone (sret (qv 2))))) bnil)
      (bcons (sset (i := 3) sc_law_draw.nd rfl (by first | exact Or.inl rfl | exact Or.inr rfl) (qop rMod (qop rMul (qop rAdd (qop rAdd (qix (xIx K) (qv 0) qint (fun _ _ => rfl)) (qop rMul qint (qix (xIx K) (qv 0) qint (fun _ _ => rfl)))) qint) qint) qint))
      (bcons (sset (i := 3) sc_law_draw.nd rfl (by first | exact Or.inl rfl | exact Or.inr rfl) (qop rMod (qop rMul (qv 3) (qop rAdd (qop rAdd (qop rMod (qv 3) qint) (qix (xIx K) (qv 0) qint (fun _ _ => rfl))) qint)) qint))
      (bone (sret (qop rMod (qop rDivB (qop rMod (qop rMul (qv 3) (qop rAdd (qop rMod (qv 3) qint) qint)) qint) qint) (qv 1)))))))), ?_⟩
    refine ⟨_, rfl, p, _, 2, _, rfl, rfl, .inl (SqL.of hp), atI_nat (j := 2) rfl, _, rfl, p, _, 2, 2, rfl, rfl, hp, rfl, ?_⟩
    refine ⟨_, rfl, p, _, 0, _, rfl, rfl, .inl (SqL.of upd_same), atI_nat (j := 0) rfl, _, _, rfl, rfl, _, rfl, ?_⟩
    refine ite2 (fun _ => ?_) (fun _ => ?_)
    · refine ⟨_, rfl, p, _, 0, _, rfl, rfl, .inl (SqL.of upd_same), atI_nat (j := 0) rfl, _, rfl, _, _, rfl, rfl, hc, ?_⟩
      refine ⟨_, rfl, p, _, 0, _, rfl, rfl, .inl (SqL.of upd_same), atI_nat (j := 0) rfl, _, rfl, _, _, rfl, rfl, hcB, _, rfl, p, _, 0, 0, rfl, rfl, upd_same, rfl, ?_⟩
      refine ⟨_, rfl, ?_⟩
      exact k (m % c) _ (Int.emod_nonneg _ (by lia)) (Int.emod_lt_of_pos _ hc) ⟨_, _, _, upd_same⟩ (same_upd (same_upd rm_same rm_self) rm_self)
    · refine ⟨_, rfl, p, _, 1, _, rfl, rfl, .inl (SqL.of upd_same), atI_nat (j := 1) rfl, _, rfl, p, _, 2, _, rfl, rfl, .inl (SqL.of upd_same), atI_nat (j := 2) rfl, _, _, rfl, rfl, cmL (by decide), _, _, rfl, rfl, cmR (by decide), _, _, rfl, rfl, (show (0 : Int) < _ by decide), ?_⟩
      have hb : ∀ x q : Int, 0 < q → q < 2147483650 → -(2 ^ 64) < x % q ∧ x % q < 2 ^ 64 := fun x q h1 h2 => by
        have := Int.emod_nonneg x (b := q) (by lia)
        have := Int.emod_lt_of_pos x h1
        lia
      refine ⟨_, rfl, _, rfl, _, _, rfl, rfl, (show (0 : Int) < _ by decide), _, rfl, p, _, 2, _, rfl, rfl, .inl (SqL.of upd_same), atI_nat (j := 2) rfl, _, _, rfl, rfl, cmL (hb _ _ (by decide) (by decide)), _, _, rfl, rfl, (show (0 : Int) < _ by decide), ?_⟩
      refine ⟨_, rfl, _, rfl, _, _, rfl, rfl, (show (0 : Int) < _ by decide), _, _, rfl, rfl, cmL (hb _ _ (by decide) (by decide)), _, _, rfl, rfl, (show (0 : Int) < _ by decide), _, _, rfl, rfl, ⟨by decide, by decide +kernel⟩, _, rfl, _, _, rfl, rfl, hc, ?_⟩
      exact k _ _ (Int.emod_nonneg _ (by lia)) (Int.emod_lt_of_pos _ hc) ⟨_, _, _, upd_same⟩ (same_upd rm_same rm_self)
theorem ok_pen {f : Addr} (F : Fd K mg "_law_pen" s_law_pen f) (T : Tx K mg) : Cal P w K mg base CX0 1 "_law_pen" (spPen K) := by
  refine F.cal sc_law_pen (fun _ _ _ _ _ _ us hl => L3.bind2 (fun _ _ => rfl) us hl) (fun vs H Q E h => ?_) (fun cdv A outer s H vs Q E hr h => ?_)
  · obtain ⟨a, k, ns, rfl, _⟩ := h; rfl
  · obtain ⟨a, k, ns, rfl, ha, hl, h0, h1, q⟩ := h
    refine split 2 (fun σ' H' => H' = H ∧ ∃ cell, σ' = [some (.ref a), some (.int k), some (.int cell)]) ?h2 ?h1
    case h2 =>
      refine ⟨_, (bcons (sif (tcmp rGe (qv 2) (qop rPow qint qint) (nomark _)) (bone (sret (qlst (qcons (qop rSub (qv 2) (qop rPow qint qint)) (qcons (qop rMod (qv 2) qint) (qcons qint qnil)))))) bnil)
      (bone (sret (qlst (qcons qint (qcons (qop rAdd (qop rMod (qv 2) qint) (qop rMul qint (qv 1))) (qcons qint qnil))))))), ?_⟩
      rintro σ' H' ⟨rfl, cell, rfl⟩
      refine ⟨_, rfl, _, _, rfl, rfl, ⟨by decide, by decide, by decide⟩, _, _, rfl, rfl, _, rfl, ?_⟩
      refine ite2 (fun _ => ?_) (fun _ => ?_)
      · exact ⟨_, rfl, _, _, rfl, rfl, ⟨by decide, by decide, by decide⟩, _, _, rfl, rfl, _, rfl, _, _, rfl, rfl, (show (0 : Int) < _ by decide), (show 3 ≤ sizeLine by decide), fun p H' hn s1 e1 _ => q p H' hn s1 ⟨_, _, _, e1⟩⟩
      · exact ⟨_, rfl, _, _, rfl, rfl, (show (0 : Int) < _ by decide), _, rfl, _, _, rfl, rfl, cmL (by decide), (show 3 ≤ sizeLine by decide), fun p H' hn s1 e1 _ => q p H' hn s1 ⟨_, _, _, e1⟩⟩
    case h1 =>
      intro u pu hu
      refine ⟨_, (bcons (sset (i := 2) sc_law_pen.nd rfl (by first | exact Or.inl rfl | exact Or.inr rfl) (qop rAdd (qop rMul qint (qv 1)) qint))
      (bcons (sif (tcmp rLt (qv 1) (qB (fLen K) rfl T.b_len bt_len (qcons (qv 0) qnil)) (nomark _)) (bone (sset (i := 2) sc_law_pen.nd rfl (by first | exact Or.inl rfl | exact Or.inr rfl) (qix (xIx K) (qv 0) (qv 1) (fun _ _ => rfl)))) (bone (sif (tcmp rGt (qB (fLen K) rfl T.b_len bt_len (qcons (qv 0) qnil)) qint (nomark _)) (bone (sset (i := 2) sc_law_pen.nd rfl (by first | exact Or.inl rfl | exact Or.inr rfl) (qop rAdd (qix (xIx K) (qv 0) (qop rMod (qv 1) (qB (fLen K) rfl T.b_len bt_len (qcons (qv 0) qnil))) (fun _ _ => rfl)) (qop rMul qint (qv 1))))) bnil)))
      pu)), ?_⟩
      refine ⟨_, rfl, _, _, rfl, rfl, cmL (by decide), ?_⟩
      have hln : (ns.map V.int).length = ns.length := List.length_map _
      refine ⟨_, rfl, _, rfl, a, _, rfl, .inl ha, _, _, rfl, rfl, _, rfl, ?_⟩
      refine ite2 (fun hk => ?_) (fun _ => ?_)
      · have hk : k < (((ns.map V.int).length : Nat) : Int) := of_decide_eq_true hk
        obtain ⟨x, hx, _⟩ := atI_ints (ns := ns) (i := k) h0 (by rw [← hln]; exact hk)
        exact ⟨_, rfl, _, rfl, a, _, _, .int x, rfl, rfl, .inl ha, hx, hu _ _ ⟨rfl, _, rfl⟩⟩
      · refine ⟨_, rfl, a, _, rfl, .inl ha, _, _, rfl, rfl, _, rfl, ?_⟩
        refine ite2 (fun hpos => ?_) (fun _ => hu _ _ ⟨rfl, _, rfl⟩)
        have hpos : 0 < (((ns.map V.int).length : Nat) : Int) := of_decide_eq_true hpos
        obtain ⟨x, hx, _⟩ := atI_ints (ns := ns) (i := k % ((ns.map V.int).length : Int)) (Int.emod_nonneg _ (by lia)) (by rw [← hln]; exact Int.emod_lt_of_pos _ hpos)
        refine ⟨_, rfl, _, rfl, _, rfl, a, _, rfl, .inl ha, _, _, rfl, rfl, hpos, a, _, _, .int x, rfl, rfl, .inl ha, hx, _, rfl, _, _, rfl, rfl, cmL (by decide), ?_⟩
        exact hu _ _ ⟨rfl, _, rfl⟩
theorem ok_keys {f : Addr} (F : Fd K mg "_law_keys" s_law_keys f) (T : Tx K mg) (C_law_draw : Cal P w K mg base CX0 1 "_law_draw" spDraw) : Cal P w K mg base CX0 2 "_law_keys" spKeys := by
  refine F.cal sc_law_keys (fun _ _ _ _ _ _ us hl => L3.bind2 (fun _ _ => rfl) us hl) (fun vs H Q E h => ?_) (fun cdv A outer s H vs Q E hr h => ?_)
  · obtain ⟨p, n, rfl, _⟩ := h; rfl
  · obtain ⟨p, n, rfl, hp, h0, h1, q⟩ := h
    refine ⟨_, (bcons (sset (i := 2) sc_law_keys.nd rfl (by first | exact Or.inl rfl | exact Or.inr rfl) (qix (xIx K) (qlst (qcons qint (qcons (qop rPow qint qint) (qcons qint (qcons (qop rPow qint qint) qnil))))) (qF C_law_draw (hr.mono (by lia)) pass0 rfl (qcons (qv 0) (qcons qint qnil))) (fun _ _ => rfl)))
      (bcons (sset (i := 3) sc_law_keys.nd rfl (by first | exact Or.inl rfl | exact Or.inr rfl) (qix (xIx K) (qlst (qcons qint (qcons qint (qcons (qop rPow qint qint) qnil)))) (qF C_law_draw (hr.mono (by lia)) pass0 rfl (qcons (qv 0) (qcons qint qnil))) (fun _ _ => rfl)))
      (bcons (sset (i := 4) sc_law_keys.nd rfl (by first | exact Or.inl rfl | exact Or.inr rfl) (qop rMul (qop rSub (qF C_law_draw (hr.mono (by lia)) pass0 rfl (qcons (qv 0) (qcons qint qnil))) qint) (qv 2)))
      (bcons (sset (i := 5) sc_law_keys.nd rfl (by first | exact Or.inl rfl | exact Or.inr rfl) (qlst qnil))
      (bcons (sfor PassesOwn.never rfl (irange1 rfl T.b_range (qcons (qv 1) qnil)) (gname (i := 6) sc_law_keys.nd rfl (by first | exact Or.inl rfl | exact Or.inr rfl))
        (bcons (sset (i := 4) sc_law_keys.nd rfl (by first | exact Or.inl rfl | exact Or.inr rfl) (qop rAdd (qop rAdd (qv 4) qint) (qF C_law_draw (hr.mono (by lia)) pass0 rfl (qcons (qv 0) (qcons (qv 3) qnil)))))
        (bone (sexpr (qBm K PySem.F.plainAttrs_list PySem.F.slot_list_append PySem.F.type_list_append mAppend (qv 5) (qcons (qv 4) qnil))))))
      (bone (sret (qv 5)))))))), ?_⟩
    refine ⟨_, _, rfl, rfl, ⟨by decide, by decide, by decide⟩, _, _, rfl, rfl, ⟨by decide, by decide, by decide⟩, (show 4 ≤ sizeLine by decide), fun l1 H1 n1 s1 e1 _ => ?_⟩
    refine ⟨_, rfl, p, 4, rfl, hp.mono s1, by decide, by decide, fun r2 H2 r20 r21 p2 s2 => ?_⟩
    obtain ⟨far, hf, hfm⟩ := atI_ints (ns := [1, 10 ^ 50, 1, 10 ^ 9]) r20 r21
    refine ⟨l1, _, r2, .int far, rfl, rfl, .inl (SqL.of (rm_look s2 e1 (hp.ne n1))), hf, ?_⟩
    have t2 : Same (rm p H) H2 := rm_trans (rm_same.trans s1) s2
    refine ⟨_, _, rfl, rfl, ⟨by decide, by decide, by decide⟩, (show 3 ≤ sizeLine by decide), fun l3 H3 n3 s3 e3 _ => ?_⟩
    refine ⟨_, rfl, p, 3, rfl, p2.mono s3, by decide, by decide, fun r4 H4 r40 r41 p4 s4 => ?_⟩
    obtain ⟨wide, hw, hwm⟩ := atI_ints (ns := [1, 4, 10 ^ 6]) r40 r41
    have hw1 : 0 < wide ∧ wide ≤ 10 ^ 6 := by
      simp only [List.mem_cons, List.not_mem_nil, or_false] at hwm
      lia
    refine ⟨l3, _, r4, .int wide, rfl, rfl, .inl (SqL.of (rm_look s4 e3 (p2.ne n3))), hw, ?_⟩
    have t4 : Same (rm p H) H4 := rm_trans (t2.trans s3) s4
    refine ⟨_, rfl, p, 201, rfl, p4, by decide, by decide, fun r5 H5 r50 r51 p5 s5 => ?_⟩
    refine ⟨_, _, rfl, rfl, _, rfl, _, _, rfl, rfl, cmL ⟨by lia, by lia⟩, ?_⟩
    have t5 := rm_trans t4 s5
    refine ⟨(show 0 ≤ sizeLine by decide), fun l6 H6 n6 s6 e6 _ => ?_⟩
    have t6 : Same (rm p H) H6 := t5.trans s6
    have h6p := p5.ne n6
    have l6n : (rm p H) l6 = none := t5.free n6
    refine ⟨_, rfl, n, rfl, by lia, by lia, for_range (n := n.toNat) (fun i σ H' => ∃ z xs key, σ = [some (.ref p), some (.int n), some (.int far), some (.int wide), some (.int key), some (.ref l6), z] ∧ Same (rm p H) H' ∧ Pen3 H' p ∧ H' l6 = some (.lst (xs.map V.int)) ∧ xs.length = i ∧ Rise xs ∧ ∀ y ∈ xs, y ≤ key)
      ⟨none, [], _, rfl, t6, p5.mono s6, e6, rfl, List.Pairwise.nil, by simp⟩ ?_ ?_⟩
    · rintro i σ H7 hi ⟨z, xs, key, rfl, t7, p7, e7, hl7, hr7, hk7⟩
      refine ⟨_, rfl, _, rfl, _, rfl, p, wide, rfl, p7, hw1.1, by lia, fun r8 H8 r80 r81 p8 s8 => ?_⟩
      have e8 := rm_look s8 e7 h6p
      refine ⟨_, rfl, .inl ⟨rfl, _, SqL.of e8⟩, _, rfl, l6, _, _, rfl, rfl, e8, sizeBig (by rw [List.length_map]; lia), ?_⟩
      exact ⟨_, xs ++ [key + 1 + r8], _, rfl, same_upd (rm_trans t7 s8) l6n, p8.off h6p.symm, by rw [upd_same, List.map_append]; rfl, by simp [hl7], rise_snoc hr7 (fun y hy => by have := hk7 y hy; lia), fun y hy => by
        rcases List.mem_append.mp hy with hy | hy
        · have := hk7 y hy; lia
        · rw [List.mem_singleton] at hy; lia⟩
    · rintro σ H7 ⟨z, xs, key, rfl, t7, p7, e7, hl7, hr7, hk7⟩
      exact ⟨_, rfl, q l6 H7 xs (p5.free t5 n6) t7 p7 e7 hr7 (by lia)⟩
end
end K43
namespace K43
open PySem L2 L3
theorem rep_upd {H : Hp} {l : Addr} {xs : List V} {o : HO} (e : H l = some (.lst xs)) (t : Tr) {v : V} (h : Rep H v t.d) : Rep (upd H l o) v t.d := (rep_rm e t h).mono (same_upd rm_same rm_self)
theorem ord_of_rise : ∀ (t : Tr) (lo hi : Option Int), Rise t.keys → (∀ y ∈ t.keys, ∀ a, lo = some a → a < y) → (∀ y ∈ t.keys, ∀ b, hi = some b → y < b) → t.ord lo hi
  | .nil, _, _, _, _, _ => trivial
  | .node l x r, lo, hi, h, h1, h2 => by
    unfold Rise at h
    rw [Tr.keys, List.append_assoc, List.pairwise_append] at h
    obtain ⟨g1, g2, g3⟩ := h
    rw [List.singleton_append, List.pairwise_cons] at g2
    have mx : x ∈ (Tr.node l x r).keys := by simp [Tr.keys]
    have ml : ∀ y ∈ l.keys, y ∈ (Tr.node l x r).keys := fun y hy => by simp [Tr.keys, hy]
    have mr : ∀ y ∈ r.keys, y ∈ (Tr.node l x r).keys := fun y hy => by simp [Tr.keys, hy]
    refine ⟨h1 x mx, h2 x mx, ord_of_rise l _ _ g1 (fun y hy => h1 y (ml y hy)) (fun y hy b hb => ?_), ord_of_rise r _ _ g2.2 (fun y hy a ha => ?_) (fun y hy => h2 y (mr y hy))⟩
    · cases hb; exact g3 y hy x (by simp)
    · cases ha; exact g2.1 y hy
theorem rise_nodup {xs : List Int} (h : Rise xs) : xs.Nodup := h.imp (fun h => by lia)
noncomputable def spPut (n : Nat) : Sp := fun vs H Q _ => ∃ (v : V) (k : Int) (t : Tr), vs = [v, .int k] ∧ Rep H v (Tr.d t) ∧ t.ht < n ∧ ∀ (r : V) (H' : Hp), Same H H' → Rep H' r (t.ins k).d → Q r H'
noncomputable def spLow (n : Nat) : Sp := fun vs H Q _ => ∃ (a : Addr) (xs : List Int), vs = [.ref a] ∧ H a = some (.lst (xs.map V.int)) ∧ xs.length < n ∧ xs.length ≤ 60 ∧ ∀ (r : V) (H' : Hp) (t : Tr), Same H H' → Rep H' r t.d → t.keys = xs → Q r H'
noncomputable def spTree : Sp := fun vs H Q _ => ∃ (p a : Addr) (xs : List Int), vs = [.ref p, .ref a] ∧ Pen3 H p ∧ a ≠ p ∧ H a = some (.lst (xs.map V.int)) ∧ Rise xs ∧ xs.length ≤ 60 ∧ ∀ (r : V) (H' : Hp) (t : Tr), Same (rm p H) H' → Pen3 H' p → Rep H' r t.d → t.keys = xs → Q r H'
noncomputable def TW (p a l : Addr) (form : Int) (B : Hp) (xs : List Int) (m : Nat) (σ : L2.St) (H : Hp) : Prop :=
  ∃ z v zs t, σ = [some (.ref p), some (.ref a), some v, some (.int form), some (.ref l), z] ∧ Same B H ∧ Pen3 H p ∧ H l = some (.lst (zs.map V.int)) ∧ Rep H v (Tr.d t) ∧ t.ord none none ∧ (t.keys ++ zs).Perm xs ∧ m = zs.length
section
variable {P : Program} {w : World} {K : PySem.W.Frag} {mg : Str → Option Value} {base : Heap}
theorem ok_put {f : Addr} (F : Fd K mg "_law_put" s_law_put f) (T : Tx K mg) : ∀ n, Cal P w K mg base CX0 n "_law_put" (spPut n) := by
  intro n
  induction n with
  | zero => exact F.none (ps := ["_law_tree_here", "_law_key"]) (fun _ _ _ _ _ _ us hl => L3.bind2 (fun _ _ => rfl) us hl) fun vs H Q E hh => by obtain ⟨v, k, t, _, _, h2, _⟩ := hh; lia
  | succ n C_law_put =>
    refine F.cal sc_law_put (fun _ _ _ _ _ _ us hl => L3.bind2 (fun _ _ => rfl) us hl) (fun vs H Q E h => ?_) (fun cdv A outer s H vs Q E hr h => ?_)
    · obtain ⟨v, k, t, rfl, _⟩ := h; rfl
    · obtain ⟨v, k, t, rfl, hv, ht, q⟩ := h
      refine ⟨_, (bcons (sif (tcmp rIs (qv 0) qnon (nomark _)) (bone (sret (qtup (qcons qnon (qcons (qv 1) (qcons qnon qnil)))))) bnil)
      (bcons (sif (tcmp rLt (qv 1) (qix (xIx K) (qv 0) qint (fun _ _ => rfl)) (nomark _)) (bone (sret (qtup (qcons (qF C_law_put (hr.mono (by lia)) pass0 rfl (qcons (qix (xIx K) (qv 0) qint (fun _ _ => rfl)) (qcons (qv 1) qnil))) (qcons (qix (xIx K) (qv 0) qint (fun _ _ => rfl)) (qcons (qix (xIx K) (qv 0) qint (fun _ _ => rfl)) qnil)))))) bnil)
      (bone (sret (qtup (qcons (qix (xIx K) (qv 0) qint (fun _ _ => rfl)) (qcons (qix (xIx K) (qv 0) qint (fun _ _ => rfl)) (qcons (qF C_law_put (hr.mono (by lia)) pass0 rfl (qcons (qix (xIx K) (qv 0) qint (fun _ _ => rfl)) (qcons (qv 1) qnil))) qnil)))))))), ?_⟩
      cases t with
      | nil =>
        cases rep_nil hv
        refine ⟨_, rfl, rfl, _, rfl, ?_⟩
        exact ⟨_, rfl, (show 3 ≤ sizeLine by decide), fun a H1 n1 s1 e1 _ => q _ _ s1 (rep_mk e1 .non .non)⟩
      | node l x r =>
        obtain ⟨a, vl, vr, rfl, ea, hl, hr'⟩ := rep_node hv
        refine ⟨_, rfl, rfl, _, rfl, ?_⟩
        refine ⟨_, rfl, _, rfl, a, _, 1, _, rfl, rfl, .inr (SqT.of ea), atI_nat (j := 1) rfl, _, _, rfl, rfl, _, rfl, ?_⟩
        simp only [Tr.ht] at ht
        refine ite2 (fun hlt => ?_) (fun hlt => ?_)
        · have hlt : k < x := of_decide_eq_true hlt
          refine ⟨_, rfl, a, _, 0, _, rfl, rfl, .inr (SqT.of ea), atI_nat (j := 0) rfl, _, rfl, vl, k, l, rfl, hl, by lia, fun r1 H1 s1 g1 => ?_⟩
          have ea1 := s1 _ _ ea
          refine ⟨_, rfl, a, _, 1, _, rfl, rfl, .inr (SqT.of ea1), atI_nat (j := 1) rfl, _, rfl, a, _, 2, _, rfl, rfl, .inr (SqT.of ea1), atI_nat (j := 2) rfl, (show 3 ≤ sizeLine by decide), fun a2 H2 n2 s2 e2 _ => ?_⟩
          refine q _ _ (s1.trans s2) ?_
          rw [Tr.ins, if_pos hlt]
          exact rep_mk e2 (g1.mono s2) (hr'.mono (s1.trans s2))
        · have hlt : ¬ k < x := fun z => hlt (decide_eq_true z)
          refine ⟨_, rfl, a, _, 0, _, rfl, rfl, .inr (SqT.of ea), atI_nat (j := 0) rfl, _, rfl, a, _, 1, _, rfl, rfl, .inr (SqT.of ea), atI_nat (j := 1) rfl, _, rfl, a, _, 2, _, rfl, rfl, .inr (SqT.of ea), atI_nat (j := 2) rfl, _, rfl, vr, k, r, rfl, hr', by lia, fun r1 H1 s1 g1 => ?_⟩
          refine ⟨(show 3 ≤ sizeLine by decide), fun a2 H2 n2 s2 e2 _ => ?_⟩
          refine q _ _ (s1.trans s2) ?_
          rw [Tr.ins, if_neg hlt]
          exact rep_mk e2 (hl.mono (s1.trans s2)) (g1.mono s2)
theorem ok_low {f : Addr} (F : Fd K mg "_law_low" s_law_low f) (T : Tx K mg) : ∀ n, Cal P w K mg base CX0 n "_law_low" (spLow n) := by
  intro n
  induction n with
  | zero => exact F.none (ps := ["_law_keys_here"]) (fun _ _ _ _ _ _ us hl => L3.bind1 (fun _ => rfl) us hl) fun vs H Q E hh => by obtain ⟨a, xs, _, _, h2, _⟩ := hh; lia
  | succ n C_law_low =>
    refine F.cal sc_law_low (fun _ _ _ _ _ _ us hl => L3.bind1 (fun _ => rfl) us hl) (fun vs H Q E h => ?_) (fun cdv A outer s H vs Q E hr h => ?_)
    · obtain ⟨a, xs, rfl, _⟩ := h; rfl
    · obtain ⟨a, xs, rfl, ea, hn, h60, q⟩ := h
      have hln : (xs.map V.int).length = xs.length := List.length_map _
      refine ⟨_, (bcons (sif (tcmp (rEqq hr) (qv 0) (qlst qnil) (nomark _)) (bone (sret qnon)) bnil)
      (bcons (sset (i := 1) sc_law_low.nd rfl (by first | exact Or.inl rfl | exact Or.inr rfl) (qop rDivB (qB (fLen K) rfl T.b_len bt_len (qcons (qv 0) qnil)) qint))
      (bone (sret (qtup (qcons (qF C_law_low (hr.mono (by lia)) pass0 rfl (qcons (qslice (xSl K) (qv 0) onone (osome (qv 1))) qnil)) (qcons (qix (xIx K) (qv 0) (qv 1) (fun _ _ => rfl)) (qcons (qF C_law_low (hr.mono (by lia)) pass0 rfl (qcons (qslice (xSl K) (qv 0) (osome (qop rAdd (qv 1) qint)) onone) qnil)) qnil)))))))), ?_⟩
      refine ⟨_, rfl, (show 0 ≤ sizeLine by decide), fun l0 H1 n1 s1 e1 _ => ?_⟩
      refine eq_ints (ys := []) (s1 _ _ ea) e1 ?_
      refine ⟨_, rfl, ?_⟩
      by_cases hx : xs = []
      · rw [decide_eq_true hx]
        refine iteT ?_
        exact q .non H1 .nil s1 .non (by rw [hx]; rfl)
      · rw [decide_eq_false hx]
        refine iteF ?_
        have hpos : 0 < xs.length := List.length_pos_iff.mpr hx
        have ea1 := s1 _ _ ea
        refine ⟨_, rfl, a, _, rfl, .inl (SqL.of ea1), _, _, rfl, rfl, ⟨by decide, by decide +kernel⟩, ?_⟩
        have eh : (((xs.map V.int).length : Nat) : Int) / 2 = ((xs.length / 2 : Nat) : Int) := by rw [hln]; lia
        dsimp only
        rw [eh]
        generalize hm : xs.length / 2 = m
        have hmx : m < xs.length := by lia
        refine ⟨_, rfl, _, rfl, _, rfl, a, _, rfl, SqL.of ea1, fun l2 H2 n2 s2 e2 _ => ?_⟩
        rw [cut_hi, ← List.map_take] at e2
        refine ⟨l2, xs.take m, rfl, e2, by rw [List.length_take]; lia, by rw [List.length_take]; lia, fun rl H3 tl s3 gl kl => ?_⟩
        have ea3 := s3 _ _ (s2 _ _ ea1)
        have hat : atI (xs.map V.int) (m : Int) = some (.int xs[m]) := atI_nat (by rw [List.getElem?_map, List.getElem?_eq_getElem hmx]; rfl)
        refine ⟨_, rfl, _, rfl, a, _, _, _, rfl, rfl, .inl (SqL.of ea3), hat, ?_⟩
        refine ⟨_, rfl, _, rfl, _, rfl, a, _, rfl, SqL.of ea3, fun l4 H4 n4 s4 e4 _ => ?_⟩
        have ei : ((m : Int) + 1) = ((m + 1 : Nat) : Int) := by lia
        rw [ei, cut_lo, ← List.map_drop] at e4
        refine ⟨l4, xs.drop (m + 1), rfl, e4, by rw [List.length_drop]; lia, by rw [List.length_drop]; lia, fun rr H5 tr s5 gr kr => ?_⟩
        refine ⟨(show 3 ≤ sizeLine by decide), fun a6 H6 n6 s6 e6 _ => ?_⟩
        refine q (.ref a6) H6 (.node tl xs[m] tr) (s1.trans (s2.trans (s3.trans (s4.trans (s5.trans s6))))) (rep_mk e6 (gl.mono (s4.trans (s5.trans s6))) (gr.mono s6)) ?_
        rw [Tr.keys, kl, kr, List.append_assoc, List.singleton_append, List.getElem_cons_drop, List.take_append_drop]
theorem ok_tree {f : Addr} (F : Fd K mg "_law_tree" s_law_tree f) (T : Tx K mg) (C_law_draw : Cal P w K mg base CX0 1 "_law_draw" spDraw) (C_law_low : Cal P w K mg base CX0 70 "_law_low" (spLow 70)) (C_law_put : Cal P w K mg base CX0 70 "_law_put" (spPut 70)) : Cal P w K mg base CX0 71 "_law_tree" spTree := by
  refine F.cal sc_law_tree (fun _ _ _ _ _ _ us hl => L3.bind2 (fun _ _ => rfl) us hl) (fun vs H Q E h => ?_) (fun cdv A outer s H vs Q E hr h => ?_)
  · obtain ⟨p, a, xs, rfl, _⟩ := h; rfl
  · obtain ⟨p, a, xs, rfl, hp, hap, ea, hr0, h60, q⟩ := h
    refine ⟨_, (bcons (sset (i := 2) sc_law_tree.nd rfl (by first | exact Or.inl rfl | exact Or.inr rfl) qnon)
      (bcons (sset (i := 3) sc_law_tree.nd rfl (by first | exact Or.inl rfl | exact Or.inr rfl) (qF C_law_draw (hr.mono (by lia)) pass0 rfl (qcons (qv 0) (qcons qint qnil))))
      (bcons (sif (tcmp (rEqq hr) (qv 3) qint (nomark _)) (bone (sret (qF C_law_low (hr.mono (by lia)) pass0 rfl (qcons (qv 1) qnil)))) bnil)
      (bcons (sset (i := 4) sc_law_tree.nd rfl (by first | exact Or.inl rfl | exact Or.inr rfl) (qTy (fList K) rfl T.b_list bt_list (qcons (qv 1) qnil)))
      (bcons (swhile PassesOwn.never (tcmp (rNeq hr) (qv 4) (qlst qnil) (nomark _))
        (bcons (sset (i := 5) sc_law_tree.nd rfl (by first | exact Or.inl rfl | exact Or.inr rfl) (qix (xIx K) (qlst (qcons qint (qcons (qop rSub (qB (fLen K) rfl T.b_len bt_len (qcons (qv 4) qnil)) qint) (qcons (qop rMul (qop rMod (qB (fLen K) rfl T.b_len bt_len (qcons (qv 4) qnil)) qint) (qop rSub (qB (fLen K) rfl T.b_len bt_len (qcons (qv 4) qnil)) qint)) (qcons qint qnil))))) (qB fMin2 rfl T.b_min bt_min (qcons (qv 3) (qcons qint qnil))) (fun _ _ => rfl)))
        (bcons (sif (tcmp rGt (qv 3) qint (nomark _)) (bone (sset (i := 5) sc_law_tree.nd rfl (by first | exact Or.inl rfl | exact Or.inr rfl) (qF C_law_draw (hr.mono (by lia)) pass0 rfl (qcons (qv 0) (qcons (qB (fLen K) rfl T.b_len bt_len (qcons (qv 4) qnil)) qnil))))) bnil)
        (bone (sset (i := 2) sc_law_tree.nd rfl (by first | exact Or.inl rfl | exact Or.inr rfl) (qF C_law_put (hr.mono (by lia)) pass0 rfl (qcons (qv 2) (qcons (qBm K PySem.F.plainAttrs_list PySem.F.slot_list_pop PySem.F.type_list_pop mPopAt (qv 4) (qcons (qv 5) qnil)) qnil))))))))
      (bone (sret (qv 2)))))))), ?_⟩
    refine ⟨_, rfl, p, 8, rfl, hp, by decide, by decide, fun form H1 f0 f1 p1 s1 => ?_⟩
    have ea1 := rm_look s1 ea hap
    refine ⟨_, rfl, _, rfl, ?_⟩
    refine ite2 (fun _ => ?_) (fun _ => ?_)
    · refine ⟨_, rfl, a, xs, rfl, ea1, by lia, by lia, fun r H2 t s2 g2 k2 => ?_⟩
      exact q r H2 t (s1.trans s2) (p1.mono s2) g2 k2
    refine ⟨_, rfl, a, _, rfl, .inl (SqL.of ea1), fun l H2 n2 s2 e2 _ => ?_⟩
    have hlp := p1.ne n2
    have ln : (rm p H) l = none := s1.free n2
    refine ⟨TW p a l form (rm p H) xs, ⟨_, none, .non, xs, .nil, rfl, s1.trans s2, p1.mono s2, e2, .non, trivial, List.Perm.refl _, rfl⟩, ?_⟩
    rintro m σ H3 ⟨z, v, zs, t, rfl, s3, p3, e3, g3, o3, pm, rfl⟩
    have hln : (zs.map V.int).length = zs.length := List.length_map _
    have hzl : t.size + zs.length = xs.length := by
      have := pm.length_eq
      rw [List.length_append, Tr.keys_length] at this
      exact this
    refine ⟨_, rfl, (show 0 ≤ sizeLine by decide), fun l4 H4 n4 s4 e4 _ => ?_⟩
    refine ne_ints (ys := []) (s4 _ _ e3) e4 ?_
    refine ⟨_, rfl, ?_⟩
    by_cases hz : zs = []
    · rw [decide_eq_true hz]
      refine iteF ?_
      refine ⟨_, rfl, q v H4 t (s3.trans s4) (p3.mono s4) (g3.mono s4) ?_⟩
      rw [hz, List.append_nil] at pm
      exact rise_ext _ _ (ord_rise t _ _ o3) hr0 fun y => pm.mem_iff
    rw [decide_eq_false hz]
    refine iteT ?_
    have hpos : 0 < zs.length := List.length_pos_iff.mpr hz
    refine ⟨fun σ' H' => ∃ m', m' < zs.length ∧ TW p a l form (rm p H) xs m' σ' H', fun _ _ z => z, ?_⟩
    have e34 := s4 _ _ e3
    have e3s : ∀ H', Same H4 H' → H' l = some (.lst (zs.map V.int)) := fun H' s => s _ _ e34
    refine ⟨_, rfl, l, _, rfl, .inl (SqL.of e34), _, _, rfl, rfl, _, rfl, l, _, rfl, .inl (SqL.of e34), _, _, rfl, rfl, (show (0 : Int) < 2 by decide), _, rfl, l, _, rfl, .inl (SqL.of e34), _, _, rfl, rfl, _, _, rfl, rfl, ?_, (show 4 ≤ sizeLine by decide), fun l5 H5 n5 s5 e5 _ => ?_⟩
    · refine cmL ?_
      have := Int.emod_nonneg (((zs.map V.int).length : Nat) : Int) (show (2 : Int) ≠ 0 by decide)
      have := Int.emod_lt_of_pos (((zs.map V.int).length : Nat) : Int) (show (0 : Int) < 2 by decide)
      lia
    rw [hln] at e5
    -- the last statement
    have fin : ∀ (at_ : Int) (H' : Hp), 0 ≤ at_ → at_ < zs.length → Same (rm p H) H' → Pen3 H' p → H' l = some (.lst (zs.map V.int)) → Rep H' v t.d →
        ∃ k : Nat, ∃ y : Int, at_ = (k : Int) ∧ k < zs.length ∧ zs[k]? = some y ∧ ∀ (r : V) (H6 : Hp), Same (upd H' l (.lst ((zs.map V.int).eraseIdx k))) H6 → Rep H6 r (t.ins y).d → ∀ z, ∃ m', m' < zs.length ∧ TW p a l form (rm p H) xs m' [some (.ref p), some (.ref a), some r, some (.int form), some (.ref l), z] H6 := by
      intro at_ H' a0 a1 sH pH eH gH
      obtain ⟨k, rfl⟩ : ∃ k : Nat, at_ = (k : Int) := ⟨at_.toNat, by lia⟩
      have hk : k < zs.length := by lia
      refine ⟨k, zs[k], rfl, hk, List.getElem?_eq_getElem hk, fun r H6 s6 g6 z => ?_⟩
      have hpe := erase_perm zs k zs[k] (List.getElem?_eq_getElem hk)
      have hel := erase_len zs k hk
      have hny : zs[k] ∉ t.keys := fun hm => by
        have hnd := (pm.nodup_iff.mpr (rise_nodup hr0))
        rw [List.nodup_append] at hnd
        exact hnd.2.2 _ hm _ (List.getElem_mem hk) rfl
      refine ⟨_, by lia, z, r, zs.eraseIdx k, t.ins zs[k], rfl, (same_upd sH ln).trans s6, (pH.off hlp.symm).mono s6, ?_, g6, Tr.ins_ord _ t _ _ o3 hny (by simp) (by simp), ?_, rfl⟩
      · rw [s6 _ _ upd_same, erase_map]
      · refine List.Perm.trans ?_ pm
        have h1 : ((t.ins zs[k]).keys).Perm (zs[k] :: t.keys) := by
          have n1 : (t.ins zs[k]).keys.Nodup := rise_nodup (ord_rise _ _ _ (Tr.ins_ord _ t _ _ o3 hny (by simp) (by simp)))
          have n2 : (zs[k] :: t.keys).Nodup := List.nodup_cons.mpr ⟨hny, rise_nodup (ord_rise _ _ _ o3)⟩
          rw [List.perm_iff_count]
          intro b
          rw [n1.count, n2.count]
          have := Tr.mem_ins zs[k] b t
          simp only [this, List.mem_cons]
        refine (h1.append_right _).trans ?_
        refine List.Perm.trans ?_ (hpe.append_left t.keys)
        rw [List.cons_append]
        exact List.perm_middle.symm
    refine ⟨_, rfl, form, 3, rfl, ?_⟩
    obtain ⟨v0, hv0, hm0⟩ := atI_ints (ns := [0, (zs.length : Int) - 1, (zs.length : Int) % 2 * ((zs.length : Int) - 1), 0]) (i := if 3 < form then 3 else form) (by split <;> lia) (by simp only [List.length_cons, List.length_nil]; split <;> lia)
    refine ⟨l5, _, _, .int v0, rfl, rfl, .inl (SqL.of e5), hv0, ?_⟩
    have hb : 0 ≤ v0 ∧ v0 < (zs.length : Int) := by
      have hL : 1 ≤ (zs.length : Int) := by lia
      generalize (zs.length : Int) = L at hm0 hL
      simp only [List.mem_cons, List.not_mem_nil, or_false] at hm0
      rcases hm0 with rfl | rfl | rfl | rfl
      · lia
      · lia
      · rcases Int.emod_two_eq L with e | e <;> rw [e] <;> lia
      · lia
    have s35 := s3.trans (s4.trans s5)
    have p5 := (p3.mono s4).mono s5
    have e35 := s5 _ _ e34
    have g5 := (g3.mono s4).mono s5
    have hht := Tr.ht_size t
    refine ⟨_, rfl, _, _, rfl, rfl, _, rfl, ?_⟩
    refine ite2 (fun _ => ?_) (fun _ => ?_)
    · refine ⟨_, rfl, _, rfl, l, _, rfl, .inl (SqL.of e35), p, _, rfl, p5, by rw [hln]; lia, by rw [hln]; lia, fun r6 H6 r60 r61 p6 s6 => ?_⟩
      rw [hln] at r61
      have e36 := rm_look s6 e35 hlp
      obtain ⟨k, y, rfl, hk, hy, go⟩ := fin r6 H6 r60 r61 (rm_trans s35 s6) p6 e36 ((rep_pen3 p5 t g5).mono s6)
      refine ⟨_, rfl, _, rfl, .inl ⟨rfl, _, SqL.of e36⟩, _, rfl, l, _, _, k, .int y, rfl, rfl, e36, by lia, by lia, seqIx (by rw [hln]; exact hk), by rw [List.getElem?_map, hy]; rfl, ?_⟩
      exact ⟨v, y, t, rfl, rep_upd e36 t ((rep_pen3 p5 t g5).mono s6), by lia, fun r H7 s7 g7 => go r H7 s7 g7 _⟩
    · obtain ⟨k, y, rfl, hk, hy, go⟩ := fin v0 H5 hb.1 hb.2 s35 p5 e35 g5
      refine ⟨_, rfl, _, rfl, .inl ⟨rfl, _, SqL.of e35⟩, _, rfl, l, _, _, k, .int y, rfl, rfl, e35, by lia, by lia, seqIx (by rw [hln]; exact hk), by rw [List.getElem?_map, hy]; rfl, ?_⟩
      exact ⟨v, y, t, rfl, rep_upd e35 t g5, by lia, fun r H7 s7 g7 => go r H7 s7 g7 _⟩
end
end K43
namespace K43C
open PySem L2 L3 K43
noncomputable def spKof (n : Nat) : Sp := fun vs H Q _ => ∃ (v : V) (t : Tr), vs = [v] ∧ Rep H v (Tr.d t) ∧ t.ht < n ∧ t.size ≤ 1000 ∧ ∀ r H', H r = none → Same H H' → H' r = some (.lst (t.keys.map V.int)) → Q (.ref r) H'
noncomputable def spWk (n : Nat) : Sp := fun vs H Q _ => ∃ (v : V) (t : Tr), vs = [v] ∧ Rep H v (Tr.d t) ∧ t.ht < n ∧ t.size ≤ 1000 ∧ ∀ r H' ws, H r = none → Same H H' → H' r = some (.lst ws) → (∀ x o, H x = some o → Reps (rm x H') ws (t.wk.map kidD)) → Reps H' ws (t.wk.map kidD) → Q (.ref r) H'
noncomputable def spFrom : Sp := fun vs H Q _ => ∃ (a : Addr) (ws : List V) (ks : List (Int × Int)) (room : Int), vs = [.ref a, .int room] ∧ H a = some (.lst ws) ∧ Reps H ws (ks.map pairD) ∧ ks.length ≤ 1000 ∧
  ∀ b H', Same H H' → H' b = some (.tup [.int (ruleM ks room).1, .int (ruleM ks room).2]) → Q (.ref b) H'
noncomputable def spByKey : Sp := fun vs H Q _ => ∃ (v : V) (t : Tr) (room : Int), vs = [v, .int room] ∧ Rep H v (Tr.d t) ∧ t.ht < 80 ∧ t.size ≤ 1000 ∧ t.keys.Nodup ∧ ∀ r H' kvs, H r = none → Same H H' → H' r = some (.dK kvs) → DT H' kvs (t.pt room) → Q (.ref r) H'
noncomputable def spMarks : Sp := fun vs H Q _ => ∃ (v : V) (t : Tr) (room : Int), vs = [v, .int room] ∧ Rep H v (Tr.d t) ∧ t.ht < 80 ∧ t.size ≤ 1000 ∧ t.keys.Nodup ∧ ∀ r H' ws, H r = none → Same H H' → H' r = some (.lst ws) → Reps H' ws ((t.io room).map rowD) → Q (.ref r) H'
section
variable {P : Program} {w : World} {K : PySem.W.Frag} {mg : Str → Option Value} {base : Heap}
theorem side_step {H : Hp} {v : V} {t : Tr} (h : Rep H v t.d) : (v = .non ∧ t.key? = []) ∨ ∃ a vl vr k, v = .ref a ∧ H a = some (.tup [vl, .int k, vr]) ∧ t.key? = [k] := by
  cases t with
  | nil => exact .inl ⟨rep_nil h, rfl⟩
  | node l k r => obtain ⟨a, vl, vr, rfl, e, _⟩ := rep_node h; exact .inr ⟨a, vl, vr, k, rfl, e, rfl⟩
theorem key_short (t : Tr) : t.key?.length ≤ 1 := by cases t <;> simp [Tr.key?]
theorem ok_wk {f : Addr} (F : Fd K mg "with_kids" s_with_kids f) (T : Tx K mg) : ∀ n, Cal P w K mg base CX0 n "with_kids" (spWk n) := by
  intro n
  induction n with
  | zero => exact (F.none (ps := ["tree"]) (fun _ _ _ _ _ _ us hl => L3.bind1 (fun _ => rfl) us hl) fun vs H Q E hh => by obtain ⟨v, t, _, _, h2, _⟩ := hh; lia)
  | succ n C_with_kids =>
    refine F.cal sc_with_kids (fun _ _ _ _ _ _ us hl => L3.bind1 (fun _ => rfl) us hl) (fun vs H Q E h => ?_) (fun cdv A outer s H vs Q E hr h => ?_)
    · obtain ⟨v, t, rfl, _⟩ := h; rfl
    · obtain ⟨v, t, rfl, hv, ht, hz, q⟩ := h
      refine ⟨_, (bcons (sif (tcmp rIs (qv 0) qnon (nomark _)) (bone (sret (qlst qnil))) bnil)
      (bcons (ssetC (i := 1) (sc := defScope s_with_kids) (NX := ["tree", "kids"]) ["side"] [none] rfl sc_with_kids.nd rfl rfl (iseq K (qtup (qcons (qix (xIx K) (qv 0) qint (fun _ _ => rfl)) (qcons (qix (xIx K) (qv 0) qint (fun _ _ => rfl)) qnil)))) (fun _ _ _ => (gname (i := 0) (show (["side"] : List Str).Nodup by decide +kernel) rfl (by first | exact Or.inl rfl | exact Or.inr rfl))) (fun _ _ _ => (csone (tcmp rIsNot (qv 0) qnon (nomark _)))) (fun _ _ _ => (qix (xIx K) (qv 0) qint (fun _ _ => rfl))) rfl rfl (by decide +kernel) rfl)
      (bone (sret (qop rAdd (qop rAdd (qF C_with_kids (hr.mono (by lia)) pass0 rfl (qcons (qix (xIx K) (qv 0) qint (fun _ _ => rfl)) qnil)) (qF C_with_kids (hr.mono (by lia)) pass0 rfl (qcons (qix (xIx K) (qv 0) qint (fun _ _ => rfl)) qnil))) (qlst (qcons (qtup (qcons (qix (xIx K) (qv 0) qint (fun _ _ => rfl)) (qcons (qv 1) qnil))) qnil))))))), ?_⟩
      cases t with
      | nil =>
        cases rep_nil hv
        exact ⟨_, rfl, rfl, _, rfl, (show 0 ≤ sizeLine by decide), fun r H1 n1 s1 e1 _ => q r H1 [] n1 s1 e1 (fun _ _ _ => .nil) .nil⟩
      | node l x r =>
        obtain ⟨a, vl, vr, rfl, ea, hl, hr'⟩ := rep_node hv
        simp only [Tr.ht] at ht
        simp only [Tr.size] at hz
        refine ⟨_, rfl, rfl, _, rfl, ?_⟩
        -- kids
        refine ⟨_, rfl, a, _, 0, _, rfl, rfl, .inr (SqT.of ea), atI_nat (j := 0) rfl, _, rfl, a, _, 2, _, rfl, rfl, .inr (SqT.of ea), atI_nat (j := 2) rfl, (show 2 ≤ sizeLine by decide), fun p1 H1 n1 s1 e1 _ => ?_⟩
        refine ⟨p1, rfl, .inr ⟨⟨_, SqT.of e1⟩, fun acc ha => ?_⟩⟩
        refine comp_tup (xs := [vl, vr]) (fun i ys σ H' => ∃ z, σ = [z] ∧ Same H1 H' ∧ H' acc = some (.lst ys) ∧ ys = ((([l, r] : List Tr).take i).flatMap Tr.key?).map V.int) ⟨none, rfl, same_new ha, upd_same, rfl⟩ (fun i ys σ H' hh => by obtain ⟨_, _, s', _⟩ := hh; exact SqT.of (s' _ _ e1)) ?_ ?_
        · rintro i ys y σ H2 hy hi ⟨z, rfl, s2, e2, rfl⟩
          have hyt : ∃ t : Tr, ([l, r] : List Tr)[i]? = some t ∧ Rep H2 y t.d := by
            match i, hy with
            | 0, hy => simp at hy; subst hy; exact ⟨l, rfl, (hl.mono s1).mono s2⟩
            | 1, hy => simp at hy; subst hy; exact ⟨r, rfl, (hr'.mono s1).mono s2⟩
          obtain ⟨ty, hty, gy⟩ := hyt
          have htk : (([l, r] : List Tr).take (i + 1)).flatMap Tr.key? = (([l, r] : List Tr).take i).flatMap Tr.key? ++ ty.key? := by rw [List.take_add_one, hty]; simp
          have hsm : ((([l, r] : List Tr).take i).flatMap Tr.key?).length ≤ 2 := by
            have h1 := key_short l
            have h2 := key_short r
            match i, hi with
            | 0, _ => simp
            | 1, _ => simp; lia
          rcases side_step gy with ⟨rfl, hk⟩ | ⟨b, bl, br, k, rfl, eb, hk⟩
          · refine ⟨_, rfl, rfl, _, rfl, ?_⟩
            refine cskip hi (ys := ((([l, r] : List Tr).take i).flatMap Tr.key?).map V.int) ?_
            exact ⟨_, rfl, s2, e2, by rw [htk, hk, List.append_nil]⟩
          · refine ⟨_, rfl, rfl, _, rfl, ?_⟩
            refine ⟨_, rfl, b, _, 1, _, rfl, rfl, .inr (SqT.of eb), atI_nat (j := 1) rfl, ?_⟩
            refine cpost e2 (sizeBig (by rw [List.length_map]; lia)) hi ?_
            exact ⟨_, rfl, same_upd s2 ha, upd_same, by rw [htk, hk, List.map_append]; rfl⟩
        · rintro ys σ H2 ⟨z, rfl, s2, e2, rfl⟩
          have s12 : Same H H2 := s1.trans s2
          have hks : ((([l, r] : List Tr).take [vl, vr].length).flatMap Tr.key?) = l.key? ++ r.key? := by simp
          rw [hks] at e2
          -- the lists of both sides
          refine ⟨_, rfl, a, _, 0, _, rfl, rfl, .inr (SqT.of (s12 _ _ ea)), atI_nat (j := 0) rfl, vl, l, rfl, hl.mono s12, by lia, by lia, fun r3 H3 w3 n3 s3 e3 x3 g3 => ?_⟩
          have s13 := s12.trans s3
          refine ⟨_, rfl, a, _, 2, _, rfl, rfl, .inr (SqT.of (s13 _ _ ea)), atI_nat (j := 2) rfl, vr, r, rfl, hr'.mono s13, by lia, by lia, fun r4 H4 w4 n4 s4 e4 x4 g4 => ?_⟩
          have l3 := g3.length
          have l4 := g4.length
          rw [List.length_map, Tr.wk_length] at l3 l4
          refine ⟨_, _, s4 _ _ e3, e4, sizeBig' (by lia), fun r5 H5 n5 s5 e5 _ => ?_⟩
          have s15 := (s13.trans s4).trans s5
          refine ⟨_, rfl, a, _, 1, _, rfl, rfl, .inr (SqT.of (s15 _ _ ea)), atI_nat (j := 1) rfl, _, rfl, (show 2 ≤ sizeLine by decide), fun r6 H6 n6 s6 e6 _ => ?_⟩
          refine ⟨(show 1 ≤ sizeLine by decide), fun r7 H7 n7 s7 e7 _ => ?_⟩
          refine ⟨_, _, s7 _ _ (s6 _ _ e5), e7, sizeBig' (by simp; lia), fun r8 H8 n8 s8 e8 _ => ?_⟩
          have s38 : Same H3 H8 := s4.trans (s5.trans (s6.trans (s7.trans s8)))
          have s48 : Same H4 H8 := s5.trans (s6.trans (s7.trans s8))
          refine q r8 H8 _ ((s15.trans (s6.trans s7)).free n8) (s15.trans (s6.trans (s7.trans s8))) e8 (fun y o hy => ?_) ?_
          · have y2 := s12 _ _ hy
            have y3 := s3 _ _ y2
            have y6 : y ≠ r6 := ne_of_none (s15 _ _ hy) n6
            have ya : y ≠ acc := ne_of_none (s1 _ _ hy) ha
            rw [Tr.wk, List.map_append, List.map_append]
            refine (((x3 y o y2).mono (rm_of' s38)).append ((x4 y o y3).mono (rm_of' s48))).append (.cons (.tup (by rw [rm_ne y6.symm]; exact s8 _ _ (s7 _ _ e6)) (.cons (.int x) (.cons (.lst (by rw [rm_ne ya.symm]; exact s38 _ _ (s3 _ _ e2)) ?_) .nil))) .nil)
            exact Reps.ints _
          rw [Tr.wk, List.map_append, List.map_append]
          refine ((g3.mono s38).append (g4.mono s48)).append (.cons (.tup (s8 _ _ (s7 _ _ e6)) (.cons (.int x) (.cons (.lst (s38 _ _ (s3 _ _ e2)) ?_) .nil))) .nil)
          exact Reps.ints _
theorem ok_kof {f : Addr} (F : Fd K mg "keys_of" s_keys_of f) (T : Tx K mg) : ∀ n, Cal P w K mg base CX0 n "keys_of" (spKof n) := by
  intro n
  induction n with
  | zero => exact (F.none (ps := ["tree"]) (fun _ _ _ _ _ _ us hl => L3.bind1 (fun _ => rfl) us hl) fun vs H Q E hh => by obtain ⟨v, t, _, _, h2, _⟩ := hh; lia)
  | succ n C_keys_of =>
    refine F.cal sc_keys_of (fun _ _ _ _ _ _ us hl => L3.bind1 (fun _ => rfl) us hl) (fun vs H Q E h => ?_) (fun cdv A outer s H vs Q E hr h => ?_)
    · obtain ⟨v, t, rfl, _⟩ := h; rfl
    · obtain ⟨v, t, rfl, hv, ht, hz, q⟩ := h
      refine ⟨_, (bcons (sif (tcmp rIs (qv 0) qnon (nomark _)) (bone (sret (qlst qnil))) bnil)
      (bone (sret (qop rAdd (qop rAdd (qF C_keys_of (hr.mono (by lia)) pass0 rfl (qcons (qix (xIx K) (qv 0) qint (fun _ _ => rfl)) qnil)) (qlst (qcons (qix (xIx K) (qv 0) qint (fun _ _ => rfl)) qnil))) (qF C_keys_of (hr.mono (by lia)) pass0 rfl (qcons (qix (xIx K) (qv 0) qint (fun _ _ => rfl)) qnil)))))), ?_⟩
      cases t with
      | nil =>
        cases rep_nil hv
        exact ⟨_, rfl, rfl, _, rfl, (show 0 ≤ sizeLine by decide), fun r H1 n1 s1 e1 _ => q r H1 n1 s1 e1⟩
      | node l x r =>
        obtain ⟨a, vl, vr, rfl, ea, hl, hr'⟩ := rep_node hv
        simp only [Tr.ht] at ht
        simp only [Tr.size] at hz
        refine ⟨_, rfl, rfl, _, rfl, ?_⟩
        refine ⟨_, rfl, a, _, 0, _, rfl, rfl, .inr (SqT.of ea), atI_nat (j := 0) rfl, vl, l, rfl, hl, by lia, by lia, fun r1 H1 n1 s1 e1 => ?_⟩
        refine ⟨_, rfl, a, _, 1, _, rfl, rfl, .inr (SqT.of (s1 _ _ ea)), atI_nat (j := 1) rfl, (show 1 ≤ sizeLine by decide), fun r2 H2 n2 s2 e2 _ => ?_⟩
        have kl := Tr.keys_length l
        have kr := Tr.keys_length r
        refine ⟨_, _, s2 _ _ e1, e2, sizeBig' (by simp; lia), fun r3 H3 n3 s3 e3 _ => ?_⟩
        have s13 := (s1.trans s2).trans s3
        refine ⟨_, rfl, a, _, 2, _, rfl, rfl, .inr (SqT.of (s13 _ _ ea)), atI_nat (j := 2) rfl, vr, r, rfl, hr'.mono s13, by lia, by lia, fun r4 H4 n4 s4 e4 => ?_⟩
        refine ⟨_, _, s4 _ _ e3, e4, sizeBig' (by simp; lia), fun r5 H5 n5 s5 e5 _ => ?_⟩
        refine q r5 H5 ((s13.trans s4).free n5) ((s13.trans s4).trans s5) ?_
        rw [e5]; simp [Tr.keys]
end
end K43C
namespace K43C
open PySem L2 L3 K43
section
variable {P : Program} {w : World} {K : PySem.W.Frag} {mg : Str → Option Value} {base : Heap}
theorem rule_cons {ks : List (Int × Int)} {room lv : Int} (h : ks ≠ []) (hl : lv = maxI (ks.map (·.1))) :
    ruleM ks room = if 1 + ((ks.filter fun p => decide (p.1 = lv)).map (·.2)).sum ≤ room then (lv, 1 + ((ks.filter fun p => decide (p.1 = lv)).map (·.2)).sum) else (lv + 1, 1) := by
  subst hl
  unfold ruleM
  rw [if_neg h]
theorem ok_from {f : Addr} (F : Fd K mg "mark_from" s_mark_from f) (T : Tx K mg) : Cal P w K mg base CX0 1 "mark_from" spFrom := by
  refine F.cal sc_mark_from (fun _ _ _ _ _ _ us hl => L3.bind2 (fun _ _ => rfl) us hl) (fun vs H Q E h => ?_) (fun cdv A outer s H vs Q E hr h => ?_)
  · obtain ⟨a, ws, ks, room, rfl, _⟩ := h; rfl
  · obtain ⟨a, ws, ks, room, rfl, ea, rs, hlen, q⟩ := h
    have hl := rs.length
    rw [List.length_map] at hl
    refine ⟨_, (bcons (sif (tnot (ttru K (qv 0) (fun _ => rfl))) (bone (sret (qtup (qcons qint (qcons qint qnil))))) bnil)
      (bcons (sset (i := 2) sc_mark_from.nd rfl (by first | exact Or.inl rfl | exact Or.inr rfl) (qB (fMax K) rfl T.b_max bt_max (qcons (qcomp (sc := defScope s_mark_from) (NX := ["kid_marks", "room", "level", "size"]) ["mark"] [none] rfl (iseq K (qv 0)) (fun _ _ _ => (gname (i := 0) (show (["mark"] : List Str).Nodup by decide +kernel) rfl (by first | exact Or.inl rfl | exact Or.inr rfl))) (fun _ _ _ => csnil) (fun _ _ _ => (qix (xIx K) (qv 0) qint (fun _ _ => rfl))) rfl rfl (by decide +kernel)) qnil)))
      (bcons (sset (i := 3) sc_mark_from.nd rfl (by first | exact Or.inl rfl | exact Or.inr rfl) (qop rAdd qint (qB (fSum K) rfl T.b_sum bt_sum (qcons (qcomp (sc := defScope s_mark_from) (NX := ["kid_marks", "room", "level", "size"]) ["mark", "level"] [none, some 2] rfl (iseq K (qv 0)) (fun _ _ _ => (gname (i := 0) (show (["mark", "level"] : List Str).Nodup by decide +kernel) rfl (by first | exact Or.inl rfl | exact Or.inr rfl))) (fun _ _ _ => (csone (tcmp (rEqq hr) (qix (xIx K) (qv 0) qint (fun _ _ => rfl)) (qv 1) (nomark _)))) (fun _ _ _ => (qix (xIx K) (qv 0) qint (fun _ _ => rfl))) rfl rfl (by decide +kernel)) qnil))))
      (bone (sret (qif (tcmp rLe (qv 3) (qv 1) (nomark _)) (qtup (qcons (qv 2) (qcons (qv 3) qnil))) (qtup (qcons (qop rAdd (qv 2) qint) (qcons qint qnil))))))))), ?_⟩
    refine ⟨_, rfl, _, .inl ⟨_, SqL.of ea, rfl⟩, ?_⟩
    cases ks with
    | nil =>
      cases rs
      refine ⟨(show 2 ≤ sizeLine by decide), fun b H1 n1 s1 e1 _ => ?_⟩
      exact q b H1 s1 e1
    | cons k0 ks' =>
      have hws : ws.isEmpty = false := by cases ws with
        | nil => simp at hl
        | cons _ _ => rfl
      rw [hws]
      refine iteF ?_
      generalize hks : (k0 :: ks') = ks at *
      -- level
      refine ⟨_, rfl, a, rfl, .inl ⟨⟨_, SqL.of ea⟩, fun acc ha => ?_⟩⟩
      refine comp_list (xs := ws) (fun i ys σ H' => ∃ z, σ = [z] ∧ Same H H' ∧ H' acc = some (.lst ys) ∧ ys = ((ks.take i).map (·.1)).map V.int) ⟨none, rfl, same_new ha, upd_same, rfl⟩ (fun i ys σ H' hh => by obtain ⟨_, _, s', _⟩ := hh; exact SqL.of (s' _ _ ea)) ?_ ?_
      · rintro i ys y σ H2 hy hi ⟨z, rfl, s2, e2, rfl⟩
        obtain ⟨m, hm, gm⟩ := reps_map rs hy
        obtain ⟨b, rfl, eb⟩ := rep_pair gm
        refine ⟨_, rfl, b, _, 0, _, rfl, rfl, .inr (SqT.of (s2 _ _ eb)), atI_nat (j := 0) rfl, ?_⟩
        refine cpost e2 (sizeBig (by simp; lia)) hi ?_
        exact ⟨_, rfl, same_upd s2 ha, upd_same, by rw [List.take_add_one, hm, List.map_append, List.map_append]; rfl⟩
      · rintro ys σ H2 ⟨z, rfl, s2, e2, rfl⟩
        rw [List.take_of_length_le (by lia)] at e2
        refine ⟨acc, ks.map (·.1), rfl, SqL.of e2, by rw [← hks]; simp, fun M hM1 hM2 => ?_⟩
        have hMm := maxI_spec _ M hM1 hM2
        have hne : ks ≠ [] := by rw [← hks]; simp
        have hrule := rule_cons (room := room) hne hMm
        -- size
        refine ⟨_, rfl, a, rfl, .inl ⟨⟨_, SqL.of (s2 _ _ ea)⟩, fun acc2 ha2 => ?_⟩⟩
        refine comp_list (xs := ws) (fun i ys σ H' => ∃ z, σ = [z, some (.int M)] ∧ Same H2 H' ∧ H' acc2 = some (.lst ys) ∧ ys = (((ks.take i).filter fun p => decide (p.1 = M)).map (·.2)).map V.int) ⟨none, rfl, same_new ha2, upd_same, rfl⟩ (fun i ys σ H' hh => by obtain ⟨_, _, s', _⟩ := hh; exact SqL.of (s' _ _ (s2 _ _ ea))) ?_ ?_
        · rintro i ys y σ H3 hy hi ⟨z, rfl, s3, e3, rfl⟩
          obtain ⟨m, hm, gm⟩ := reps_map rs hy
          obtain ⟨b, rfl, eb⟩ := rep_pair gm
          have eb3 := s3 _ _ (s2 _ _ eb)
          have hfl := List.length_filter_le (fun p : Int × Int => decide (p.1 = M)) (ks.take i)
          rw [List.length_take] at hfl
          have htk : (ks.take (i + 1)).filter (fun p => decide (p.1 = M)) = (ks.take i).filter (fun p => decide (p.1 = M)) ++ (if m.1 = M then [m] else []) := by
            rw [List.take_add_one, hm, List.filter_append]
            congr 1
            by_cases h : m.1 = M <;> simp [h]
          refine ⟨_, rfl, b, _, 0, _, rfl, rfl, .inr (SqT.of eb3), atI_nat (j := 0) rfl, _, rfl, _, rfl, ?_⟩
          refine ite2 (fun h => ?_) (fun h => ?_)
          · have h : m.1 = M := of_decide_eq_true h
            rw [if_pos h] at htk
            refine ⟨_, rfl, b, _, 1, _, rfl, rfl, .inr (SqT.of eb3), atI_nat (j := 1) rfl, ?_⟩
            refine cpost e3 (sizeBig (by simp only [List.length_map]; lia)) hi ?_
            exact ⟨_, rfl, same_upd s3 ha2, upd_same, by rw [htk, List.map_append, List.map_append]; rfl⟩
          · have h : ¬ m.1 = M := fun z => h (decide_eq_true z)
            rw [if_neg h, List.append_nil] at htk
            refine cskip hi (ys := (((ks.take i).filter fun p => decide (p.1 = M)).map (·.2)).map V.int) ?_
            exact ⟨_, rfl, s3, e3, by rw [htk]⟩
        · rintro ys σ H3 ⟨z, rfl, s3, e3, rfl⟩
          rw [List.take_of_length_le (by lia)] at e3
          refine ⟨acc2, _, rfl, SqL.of e3, ?_⟩
          -- the end
          refine ⟨_, rfl, _, rfl, _, _, rfl, rfl, _, rfl, ?_⟩
          refine ite2 (fun h => ?_) (fun h => ?_)
          · have h := of_decide_eq_true h
            rw [if_pos h] at hrule
            refine ⟨_, rfl, _, rfl, (show 2 ≤ sizeLine by decide), fun b H4 n4 s4 e4 _ => ?_⟩
            refine q b H4 (s2.trans (s3.trans s4)) ?_
            rw [hrule]; exact e4
          · have h : ¬ _ := fun z => h (decide_eq_true z)
            rw [if_neg h] at hrule
            refine ⟨_, rfl, (show 2 ≤ sizeLine by decide), fun b H4 n4 s4 e4 _ => ?_⟩
            refine q b H4 (s2.trans (s3.trans s4)) ?_
            rw [hrule]; exact e4
theorem ok_byKey {f : Addr} (F : Fd K mg "marks_by_key" s_marks_by_key f) (T : Tx K mg) (C_with_kids : Cal P w K mg base CX0 80 "with_kids" (spWk 80)) (C_mark_from : Cal P w K mg base CX0 1 "mark_from" spFrom) : Cal P w K mg base CX0 82 "marks_by_key" spByKey := by
  refine F.cal sc_marks_by_key (fun _ _ _ _ _ _ us hl => L3.bind2 (fun _ _ => rfl) us hl) (fun vs H Q E h => ?_) (fun cdv A outer s H vs Q E hr h => ?_)
  · obtain ⟨v, t, room, rfl, _⟩ := h; rfl
  · obtain ⟨v, t, room, rfl, hv, ht, hz, hnd, q⟩ := h
    refine ⟨_, (bcons (sset (i := 2) sc_marks_by_key.nd rfl (by first | exact Or.inl rfl | exact Or.inr rfl) qdict)
      (bcons (sfor PassesOwn.never rfl (iseq K (qF C_with_kids (hr.mono (by lia)) pass0 rfl (qcons (qv 0) qnil))) (gtup (n := 2) K rfl (gscons (gname (i := 3) sc_marks_by_key.nd rfl (by first | exact Or.inl rfl | exact Or.inr rfl)) (gscons (gname (i := 4) sc_marks_by_key.nd rfl (by first | exact Or.inl rfl | exact Or.inr rfl)) gsnil)))
        (bone (sdput hr (qv 2) (qv 3) (qF C_mark_from (hr.mono (by lia)) pass0 rfl (qcons (qcomp (sc := defScope s_marks_by_key) (NX := ["tree", "room", "told", "key", "kids"]) ["kid", "told"] [none, some 2] rfl (iseq K (qv 4)) (fun _ _ _ => (gname (i := 0) (show (["kid", "told"] : List Str).Nodup by decide +kernel) rfl (by first | exact Or.inl rfl | exact Or.inr rfl))) (fun _ _ _ => csnil) (fun _ _ _ => (qdget hr (qv 1) (qv 0) (fun _ _ => rfl))) rfl rfl (by decide +kernel)) (qcons (qv 1) qnil))) rfl)))
      (bone (sret (qv 2))))), ?_⟩
    refine fun d H1 n1 s1 e1 _ => ?_
    refine ⟨_, rfl, v, t, rfl, hv.mono s1, ht, hz, fun r H2 ws n2 s2 e2 _ g2 => ?_⟩
    have ed2 := s2 _ _ e1
    have hrd : r ≠ d := fun z => by rw [z, ed2] at e2; cases e2
    have gB : Reps (rm d H2) ws (t.wk.map kidD) := Reps.apart ed2 g2 (pures_map pure_kid _)
    have eB : rm d H2 r = some (.lst ws) := by rw [rm_ne hrd]; exact e2
    have hlw := g2.length
    rw [List.length_map, Tr.wk_length] at hlw
    have hpn := Tr.pt_nodup room hnd
    have hdH : (rm d H2) d = none := rm_self
    have sHB : Same H (rm d H2) := fun b o hb => by rw [rm_ne (ne_of_none hb n1)]; exact s2 _ _ (s1 _ _ hb)
    refine ⟨r, rfl, .inl ⟨⟨_, SqL.of e2⟩, for_list (xs := ws) (fun i σ H' => ∃ z1 z2 kvs, σ = [some v, some (.int room), some (.ref d), z1, z2] ∧ Same (rm d H2) H' ∧ H' d = some (.dK kvs) ∧ DT H' kvs ((t.wk.take i).foldl (stepT room) []))
      ⟨none, none, [], rfl, rm_same, ed2, .nil⟩ (fun i σ H' _ hh => by obtain ⟨_, _, _, _, s', _⟩ := hh; exact SqL.of (s' _ _ eB)) ?_ ?_⟩⟩
    · rintro i x σ H3 hx ⟨z1, z2, kvs, rfl, s3, ed, DTT⟩
      have hi := (List.getElem?_eq_some_iff.mp hx).1
      obtain ⟨e, he, ge⟩ := reps_map gB hx
      obtain ⟨b, c, rfl, eb, ec⟩ := rep_kid ge
      have eb3 := s3 _ _ eb
      have ec3 := s3 _ _ ec
      refine ⟨b, _, rfl, SqT.of eb3, rfl, _, _, rfl, _, _, rfl, rfl, ?_⟩
      have hkeys : (((t.wk.take i).foldl (stepT room) []).map (·.1)) = (t.wk.take i).map (·.1) := by rw [step_keys]; rfl
      have hall : (t.wk.map (·.1)).Nodup := by rw [Tr.wk_keys room]; exact hpn
      have hsplit : t.wk.map (·.1) = (t.wk.take i).map (·.1) ++ e.1 :: (t.wk.drop (i + 1)).map (·.1) := by
        have h1 : t.wk = t.wk.take i ++ e :: t.wk.drop (i + 1) := by
          obtain ⟨hlt, hee⟩ := List.getElem?_eq_some_iff.mp he
          rw [← hee, List.getElem_cons_drop, List.take_append_drop]
        conv => lhs; rw [h1]
        rw [List.map_append, List.map_cons]
      rw [hsplit] at hall
      have hndt : (((t.wk.take i).foldl (stepT room) []).map (·.1)).Nodup := by rw [hkeys]; exact (List.nodup_append.mp hall).1
      have hnew : e.1 ∉ ((t.wk.take i).foldl (stepT room) []).map (·.1) := by
        rw [hkeys]
        intro hm
        exact (List.nodup_append.mp hall).2.2 _ hm _ List.mem_cons_self rfl
      have hah := ahead_at t.wk [] i e (Tr.wk_ahead t) he
      generalize htb : (t.wk.take i).foldl (stepT room) [] = tb at *
      have hlook : ∀ k ∈ e.2, ∃ m, look tb k = some m := fun k hk => by
        have h1 := hah k hk
        rw [List.nil_append, ← hkeys] at h1
        obtain ⟨en, hen, rfl⟩ := List.mem_map.mp h1
        exact ⟨en.2, look_mem hndt hen⟩
      have hle2 : e.2.length ≤ 1000 := by
        have := Tr.wk_small t e (List.mem_of_getElem? he)
        lia
      have hwl := Tr.wk_length t
      -- the kids' marks
      refine ⟨_, rfl, c, rfl, .inl ⟨⟨_, SqL.of ec3⟩, fun acc ha => ?_⟩⟩
      have hcd : acc ≠ d := fun z => by rw [z, ed] at ha; cases ha
      refine comp_list (xs := e.2.map V.int) (fun j ys σ H' => ∃ z, σ = [z, some (.ref d)] ∧ Same H3 H' ∧ H' acc = some (.lst ys) ∧ Reps H3 ys (((e.2.take j).filterMap (look tb)).map pairD)) ⟨none, rfl, same_new ha, upd_same, .nil⟩ (fun j ys σ H' hh => by obtain ⟨_, _, s', _⟩ := hh; exact SqL.of (s' _ _ ec3)) ?_ ?_
      · rintro j ys y σ H4 hy hj ⟨z, rfl, s4, e4, g4⟩
        rw [List.getElem?_map] at hy
        obtain ⟨k, hk, rfl⟩ := Option.map_eq_some_iff.mp hy
        obtain ⟨m, hm⟩ := hlook k (List.mem_of_getElem? hk)
        obtain ⟨bm, hv1, hb1⟩ := DTT.val hm
        have hg : DGet H4 d (.int k) (some (.ref bm)) := by
          have := DGet.k (k := (Sum.inl k : Key)) (s4 _ _ ed)
          rw [hv1] at this
          exact this
        refine ⟨_, rfl, _, rfl, d, .ref bm, rfl, hg, ?_⟩
        have hl4 := g4.length
        rw [List.length_map] at hl4
        have hfl := List.length_filterMap_le (look tb) (e.2.take j)
        rw [List.length_take] at hfl
        refine cpost e4 (sizeBig (by lia)) hj ?_
        refine ⟨_, rfl, same_upd s4 ha, upd_same, ?_⟩
        rw [List.take_add_one, hk, List.filterMap_append, List.map_append]
        refine g4.append ?_
        simp only [Option.toList, List.filterMap_cons, hm, List.filterMap_nil, List.map_cons, List.map_nil]
        exact .cons (pair_rep hb1) .nil
      · rintro ys σ H4 ⟨z, rfl, s4, e4, g4⟩
        rw [List.length_map, List.take_length] at g4
        have hfl := List.length_filterMap_le (look tb) e.2
        refine ⟨_, rfl, acc, ys, e.2.filterMap (look tb), room, rfl, e4, g4.mono s4, by lia, fun bm H5 s5 e5 => ?_⟩
        have ed5 := s5 _ _ (s4 _ _ ed)
        have dl := DTT.length
        have tl : tb.length = i := by
          have := congrArg List.length hkeys
          rw [List.length_map, List.length_map, List.length_take] at this
          lia
        refine ⟨_, rfl, _, rfl, d, _, rfl, DPut.k (k := (Sum.inl e.1 : Key)) ed5 (sizeBig (by lia)), ?_⟩
        refine ⟨_, _, _, rfl, same_upd (s3.trans (s4.trans s5)) hdH, upd_same, ?_⟩
        rw [List.take_add_one, he, List.foldl_append, htb]
        exact ((DTT.mono (s4.trans s5)).put hnew e5).upd ed5 (fun vs z => nomatch z)
    · rintro σ H3 ⟨z1, z2, kvs, rfl, s3, ed, DTT⟩
      refine ⟨_, rfl, ?_⟩
      refine q d H3 kvs n1 (sHB.trans s3) ed ?_
      rw [List.take_of_length_le (by rw [Tr.wk_length]; lia), Tr.fold_wk room t [] (by simpa using hpn)] at DTT
      exact DTT
theorem ok_marks {f : Addr} (F : Fd K mg "marks" s_marks f) (T : Tx K mg) (C_marks_by_key : Cal P w K mg base CX0 82 "marks_by_key" spByKey) (C_keys_of : Cal P w K mg base CX0 82 "keys_of" (spKof 82)) : Cal P w K mg base CX0 84 "marks" spMarks := by
  refine F.cal sc_marks (fun _ _ _ _ _ _ us hl => L3.bind2 (fun _ _ => rfl) us hl) (fun vs H Q E h => ?_) (fun cdv A outer s H vs Q E hr h => ?_)
  · obtain ⟨v, t, room, rfl, _⟩ := h; rfl
  · obtain ⟨v, t, room, rfl, hv, ht, hz, hnd, q⟩ := h
    refine ⟨_, (bcons (sset (i := 2) sc_marks.nd rfl (by first | exact Or.inl rfl | exact Or.inr rfl) (qF C_marks_by_key (hr.mono (by lia)) pass0 rfl (qcons (qv 0) (qcons (qv 1) qnil))))
      (bone (sret (qcomp (sc := defScope s_marks) (NX := ["tree", "room", "told"]) ["key", "told"] [none, some 2] rfl (iseq K (qF C_keys_of (hr.mono (by lia)) pass0 rfl (qcons (qv 0) qnil))) (fun _ _ _ => (gname (i := 0) (show (["key", "told"] : List Str).Nodup by decide +kernel) rfl (by first | exact Or.inl rfl | exact Or.inr rfl))) (fun _ _ _ => csnil) (fun _ _ _ => (qtup (qcons (qv 0) (qcons (qix (xIx K) (qdget hr (qv 1) (qv 0) (fun _ _ => rfl)) qint (fun _ _ => rfl)) (qcons (qix (xIx K) (qdget hr (qv 1) (qv 0) (fun _ _ => rfl)) qint (fun _ _ => rfl)) qnil))))) rfl rfl (by decide +kernel))))), ?_⟩
    refine ⟨_, rfl, _, rfl, v, t, room, rfl, hv, ht, hz, hnd, fun d H1 kvs n1 s1 e1 D1 => ?_⟩
    refine ⟨_, rfl, v, t, rfl, hv.mono s1, by lia, hz, fun r H2 n2 s2 e2 => ?_⟩
    refine ⟨r, rfl, .inl ⟨⟨_, SqL.of e2⟩, fun acc ha => ?_⟩⟩
    have s12 := s1.trans s2
    have D2 := D1.mono s2
    have hpn := Tr.pt_nodup room hnd
    have hkl := Tr.keys_length t
    have hio := Tr.io_keys room t
    have hil : (t.io room).length = t.size := by rw [← hkl, ← hio, List.length_map]
    refine comp_list (xs := t.keys.map V.int) (fun j ys σ H' => ∃ z, σ = [z, some (.ref d)] ∧ Same H2 H' ∧ H' acc = some (.lst ys) ∧ ys.length = j ∧ Reps (rm acc H') ys (((t.io room).take j).map rowD)) ⟨none, rfl, same_new ha, upd_same, rfl, .nil⟩ (fun j ys σ H' hh => by obtain ⟨_, _, s', _⟩ := hh; exact SqL.of (s' _ _ e2)) ?_ ?_
    · rintro j ys y σ H3 hy hj ⟨z, rfl, s3, e3, l3, g3⟩
      rw [List.getElem?_map] at hy
      obtain ⟨k, hk, rfl⟩ := Option.map_eq_some_iff.mp hy
      rw [← hio, List.getElem?_map] at hk
      obtain ⟨en, hen, rfl⟩ := Option.map_eq_some_iff.mp hk
      rw [List.length_map] at hj
      have hm := look_mem (k := en.1) (m := en.2) hpn (Tr.io_pt room t en (List.mem_of_getElem? hen))
      obtain ⟨bm, hv1, hb1⟩ := D2.val hm
      have hg : ∀ {H4 : Hp}, Same H2 H4 → DGet H4 d (.int en.1) (some (.ref bm)) := fun s4 => by
        have := DGet.k (k := (Sum.inl en.1 : Key)) (s4 _ _ (s2 _ _ e1))
        rw [hv1] at this
        exact this
      refine ⟨_, rfl, _, rfl, _, rfl, d, .ref bm, rfl, hg s3, bm, _, 0, _, rfl, rfl, .inr (SqT.of (s3 _ _ hb1)), atI_nat (j := 0) rfl, ?_⟩
      refine ⟨_, rfl, _, rfl, d, .ref bm, rfl, hg s3, bm, _, 1, _, rfl, rfl, .inr (SqT.of (s3 _ _ hb1)), atI_nat (j := 1) rfl, ?_⟩
      refine ⟨(show 3 ≤ sizeLine by decide), fun b4 H4 n4 s4 e4 _ => ?_⟩
      have hb4 : b4 ≠ acc := fun z => by rw [z, e3] at n4; cases n4
      refine cpost (s4 _ _ e3) (sizeBig (by lia)) (by rw [List.length_map]; exact hj) ?_
      refine ⟨_, rfl, same_upd (s3.trans s4) ha, upd_same, by simp [l3], ?_⟩
      rw [rm_upd, List.take_add_one, hen, List.map_append]
      refine (g3.mono (rm_of' s4)).append (.cons (.tup (by rw [rm_ne hb4]; exact e4) (.cons (.int _) (.cons (.int _) (.cons (.int _) .nil)))) .nil)
    · rintro ys σ H3 ⟨z, rfl, s3, e3, l3, g3⟩
      rw [List.length_map, List.take_of_length_le (by lia)] at g3
      exact q acc H3 ys (s12.free ha) (s12.trans s3) e3 (g3.mono rm_same)
end
end K43C
namespace K43C
open PySem L2 L3 K43
noncomputable def spLaw (K : PySem.W.Frag) : Sp := fun vs H Q _ => ∃ (a : Addr) (ns : List Int), vs = [.ref a] ∧ SqL K H a (ns.map V.int) ∧ ns.length ≤ 63 ∧ ∀ H', Q (.bl true) H'
section
variable {P : Program} {w : World} {K : PySem.W.Frag} {mg : Str → Option Value} {base : Heap}
theorem eq_nilD {H : Hp} {a b : Addr} {vs : List V} {xs : List D} {Q : VK} (ea : H a = some (.lst vs)) (rs : Reps H vs xs) (hp : pures xs = true) (hd : deps xs ≤ 100) (eb : H b = some (.lst [])) (h : Q (.bl xs.isEmpty) H) : rEqG 150 (.ref a) (.ref b) H Q := by
  refine ⟨_, _, .lst ea rs, .lst eb .nil, hp, rfl, by rw [D.dep]; lia, ?_⟩
  cases xs <;> exact h
end
end K43C
namespace K43C
open PySem L2 L3 K43
section
variable {P : Program} {w : World} {K : PySem.W.Frag} {mg : Str → Option Value} {base : Heap}
end
end K43C
namespace K43C
open PySem L2 L3 K43
theorem pairs_upd {H : Hp} {l : Addr} {xs : List V} {o : HO} (e : H l = some (.lst xs)) : ∀ {ps : List (Int × Int)} {vs : List V}, Reps H vs (ps.map pairD) → Reps (upd H l o) vs (ps.map pairD)
  | [], _, h => by cases h; exact .nil
  | p :: ps, _, h => by
    cases h with
    | cons h1 h2 =>
      obtain ⟨b, rfl, eb⟩ := rep_pair h1
      exact .cons (pair_rep (by rw [upd_ne (fun z => by rw [z, e] at eb; cases eb)]; exact eb)) (pairs_upd e h2)
theorem tP_take {tb : Tab} {w : List (Int × List Int)} {i : Nat} {e : Int × List Int} (h : w[i]? = some e) : tP tb (w.take (i + 1)) = tP tb (w.take i) ++ (e.2.filter fun c => decide (lv tb c = lv tb e.1)).map fun c => (e.1, c) := by
  rw [List.take_add_one, h, tP_append]
  simp [tP]
theorem tP_take_le {tb : Tab} {w : List (Int × List Int)} (i : Nat) : (tP tb (w.take i)).length ≤ (tP tb w).length := by
  conv => rhs; rw [← List.take_append_drop i w, tP_append]
  rw [List.length_append]; lia
noncomputable def Known (tb : Tab) (t : Tr) : Prop := ∀ e ∈ t.wk, (∃ m, look tb e.1 = some m) ∧ ∀ c ∈ e.2, ∃ m, look tb c = some m
theorem known_pt (room : Int) {t : Tr} (h : t.keys.Nodup) : Known (t.pt room) t := by
  have hn := Tr.pt_nodup room h
  have some_of : ∀ k, k ∈ t.wk.map (·.1) → ∃ m, look (t.pt room) k = some m := fun k hk => by
    rw [Tr.wk_keys room] at hk
    obtain ⟨e, he, rfl⟩ := List.mem_map.mp hk
    exact ⟨e.2, look_mem hn he⟩
  intro e he
  refine ⟨some_of _ (List.mem_map_of_mem he), fun c hc => some_of c ?_⟩
  obtain ⟨i, hi⟩ := List.getElem?_of_mem he
  have := ahead_at t.wk [] i e (Tr.wk_ahead t) hi c hc
  rw [List.nil_append] at this
  obtain ⟨x, hx, rfl⟩ := List.mem_map.mp this
  exact List.mem_map_of_mem (List.mem_of_mem_take hx)
noncomputable def spTied : Sp := fun vs H Q _ => ∃ (v : V) (t : Tr) (tb : Tab) (d : Addr) (kvs : List (Key × V)), vs = [v, .ref d] ∧ Rep H v (Tr.d t) ∧ t.ht < 80 ∧ t.size ≤ 1000 ∧ H d = some (.dK kvs) ∧ DT H kvs tb ∧ Known tb t ∧
  ∀ r H' ws, H r = none → Same H H' → H' r = some (.lst ws) → Reps H' ws ((tP tb t.wk).map pairD) → Q (.ref r) H'
section
variable {P : Program} {w : World} {K : PySem.W.Frag} {mg : Str → Option Value} {base : Heap}
theorem ok_tied {f : Addr} (F : Fd K mg "tied_pairs" s_tied_pairs f) (T : Tx K mg) (C_with_kids : Cal P w K mg base CX0 80 "with_kids" (spWk 80)) : Cal P w K mg base CX0 82 "tied_pairs" spTied := by
  refine F.cal sc_tied_pairs (fun _ _ _ _ _ _ us hl => L3.bind2 (fun _ _ => rfl) us hl) (fun vs H Q E h => ?_) (fun cdv A outer s H vs Q E hr h => ?_)
  · obtain ⟨v, t, tb, d, kvs, rfl, _⟩ := h; rfl
  · obtain ⟨v, t, tb, d, kvs, rfl, hv, ht, hz, ed, D0, kn, q⟩ := h
    refine ⟨_, (bcons (sset (i := 2) sc_tied_pairs.nd rfl (by first | exact Or.inl rfl | exact Or.inr rfl) (qlst qnil))
      (bcons (sfor PassesOwn.never rfl (iseq K (qF C_with_kids (hr.mono (by lia)) pass0 rfl (qcons (qv 0) qnil))) (gtup (n := 2) K rfl (gscons (gname (i := 3) sc_tied_pairs.nd rfl (by first | exact Or.inl rfl | exact Or.inr rfl)) (gscons (gname (i := 4) sc_tied_pairs.nd rfl (by first | exact Or.inl rfl | exact Or.inr rfl)) gsnil)))
        (bone (sexpr (qBm K PySem.F.plainAttrs_list PySem.F.slot_list_extend PySem.F.type_list_extend mExtend (qv 2) (qcons (qcomp (sc := defScope s_tied_pairs) (NX := ["tree", "told", "pairs", "key", "kids"]) ["kid", "key", "told"] [none, some 3, some 1] rfl (iseq K (qv 4)) (fun _ _ _ => (gname (i := 0) (show (["kid", "key", "told"] : List Str).Nodup by decide +kernel) rfl (by first | exact Or.inl rfl | exact Or.inr rfl))) (fun _ _ _ => (csone (tcmp (rEqq hr) (qix (xIx K) (qdget hr (qv 2) (qv 0) (fun _ _ => rfl)) qint (fun _ _ => rfl)) (qix (xIx K) (qdget hr (qv 2) (qv 1) (fun _ _ => rfl)) qint (fun _ _ => rfl)) (nomark _)))) (fun _ _ _ => (qtup (qcons (qv 1) (qcons (qv 0) qnil)))) rfl rfl (by decide +kernel)) qnil)))))
      (bone (sret (qv 2))))), ?_⟩
    refine ⟨(show 0 ≤ sizeLine by decide), fun l0 H1 n1 s1 e1 _ => ?_⟩
    refine ⟨_, rfl, v, t, rfl, hv.mono s1, ht, hz, fun r H2 ws n2 s2 e2 x2 g2 => ?_⟩
    have hrl : r ≠ l0 := fun z => by rw [z, e1] at n2; cases n2
    have gB : Reps (rm l0 H2) ws (t.wk.map kidD) := x2 _ _ e1
    have eB : rm l0 H2 r = some (.lst ws) := by rw [rm_ne hrl]; exact e2
    have sHB : Same H (rm l0 H2) := fun b o hb => by rw [rm_ne (ne_of_none hb n1)]; exact s2 _ _ (s1 _ _ hb)
    have hlw := g2.length
    rw [List.length_map, Tr.wk_length] at hlw
    have hlen := tie_len tb t
    have hn0 : (rm l0 H2) l0 = none := rm_self
    refine ⟨r, rfl, .inl ⟨⟨_, SqL.of e2⟩, for_listN (xs := ws) (fun i σ H' => ∃ z1 z2 ys, σ = [some v, some (.ref d), some (.ref l0), z1, z2] ∧ Same (rm l0 H2) H' ∧ H' l0 = some (.lst ys) ∧ Reps H' ys ((tP tb (t.wk.take i)).map pairD))
      ⟨none, none, [], rfl, rm_same, s2 _ _ e1, .nil⟩ (fun i σ H' _ hh => by obtain ⟨_, _, _, _, s', _⟩ := hh; exact SqL.of (s' _ _ eB)) ?_ ?_⟩⟩
    · rintro N B R i x σ H3 hx hN _ _ ⟨z1, z2, ys, rfl, s3, el, g3⟩
      obtain ⟨e, he, ge⟩ := reps_map gB hx
      obtain ⟨b, c, rfl, eb, ec⟩ := rep_kid ge
      have eb3 := s3 _ _ eb
      have ec3 := s3 _ _ ec
      have ed3 : H3 d = some (.dK kvs) := s3 _ _ (sHB _ _ ed)
      have D3 : DT H3 kvs tb := D0.mono (sHB.trans s3)
      obtain ⟨⟨mk, hmk⟩, hkn⟩ := kn e (List.mem_of_getElem? he)
      have hle2 : e.2.length ≤ 2 := Tr.wk_small t e (List.mem_of_getElem? he)
      have htk := tP_take (tb := tb) he
      have hg : ∀ {k : Int} {m : Int × Int} {H4 : Hp}, look tb k = some m → Same H3 H4 → ∃ bm, DGet H4 d (.int k) (some (.ref bm)) ∧ H4 bm = some (.tup [.int m.1, .int m.2]) := fun {k m H4} hm s4 => by
        obtain ⟨bm, hv1, hb1⟩ := D3.val hm
        have := DGet.k (k := (Sum.inl k : Key)) (s4 _ _ ed3)
        rw [hv1] at this
        exact ⟨bm, this, s4 _ _ hb1⟩
      refine ⟨b, _, rfl, SqT.of eb3, rfl, _, _, rfl, _, _, rfl, rfl, ?_⟩
      refine ⟨_, rfl, .inl ⟨rfl, _, SqL.of el⟩, ?_⟩
      refine ⟨_, rfl, c, rfl, .inl ⟨⟨_, SqL.of ec3⟩, fun acc ha => ?_⟩⟩
      refine comp_list (xs := e.2.map V.int) (fun j zs σ H' => ∃ z, σ = [z, some (.int e.1), some (.ref d)] ∧ Same H3 H' ∧ H' acc = some (.lst zs) ∧ Reps H' zs ((((e.2.take j).filter fun c => decide (lv tb c = lv tb e.1)).map fun c => (e.1, c)).map pairD)) ⟨none, rfl, same_new ha, upd_same, .nil⟩ (fun j zs σ H' hh => by obtain ⟨_, _, s', _⟩ := hh; exact SqL.of (s' _ _ ec3)) ?_ ?_
      · rintro j zs y σ H4 hy hj ⟨z, rfl, s4, e4, g4⟩
        rw [List.getElem?_map] at hy
        obtain ⟨k, hk, rfl⟩ := Option.map_eq_some_iff.mp hy
        obtain ⟨m, hm⟩ := hkn k (List.mem_of_getElem? hk)
        obtain ⟨b1, d1, h1⟩ := hg hm s4
        obtain ⟨b2, d2, h2⟩ := hg hmk s4
        have hlv1 : lv tb k = m.1 := by unfold lv; rw [hm]; rfl
        have hlv2 : lv tb e.1 = mk.1 := by unfold lv; rw [hmk]; rfl
        have hl4 := g4.length
        have hfl := List.length_filter_le (fun c => decide (lv tb c = lv tb e.1)) (e.2.take j)
        rw [List.length_map, List.length_map] at hl4
        rw [List.length_take] at hfl
        have hst : (e.2.take (j + 1)).filter (fun c => decide (lv tb c = lv tb e.1)) = (e.2.take j).filter (fun c => decide (lv tb c = lv tb e.1)) ++ (if m.1 = mk.1 then [k] else []) := by
          rw [List.take_add_one, hk, List.filter_append, ← hlv1, ← hlv2]
          congr 1
          by_cases h : lv tb k = lv tb e.1 <;> simp [h]
        refine ⟨_, rfl, _, rfl, d, .ref b1, rfl, d1, b1, _, 0, _, rfl, rfl, .inr (SqT.of h1), atI_nat (j := 0) rfl, ?_⟩
        refine ⟨_, rfl, _, rfl, d, .ref b2, rfl, d2, b2, _, 0, _, rfl, rfl, .inr (SqT.of h2), atI_nat (j := 0) rfl, _, rfl, ?_⟩
        refine ite2 (fun h => ?_) (fun h => ?_)
        · have h : m.1 = mk.1 := of_decide_eq_true h
          rw [if_pos h] at hst
          refine ⟨_, rfl, _, rfl, (show 2 ≤ sizeLine by decide), fun b5 H5 n5 s5 e5 _ => ?_⟩
          refine cpost (s5 _ _ e4) (sizeBig (by lia)) hj ?_
          refine ⟨_, rfl, same_upd (s4.trans s5) ha, upd_same, ?_⟩
          rw [hst, List.map_append, List.map_append]
          refine (pairs_upd (s5 _ _ e4) (g4.mono s5)).append ?_
          exact pairs_upd (ps := [(e.1, k)]) (s5 _ _ e4) (.cons (pair_rep e5) .nil)
        · have h : ¬ m.1 = mk.1 := fun z => h (decide_eq_true z)
          rw [if_neg h, List.append_nil] at hst
          refine cskip hj (ys := zs) ?_
          exact ⟨_, rfl, s4, e4, by rw [hst]; exact g4⟩
      · rintro zs σ H4 ⟨z, rfl, s4, e4, g4⟩
        rw [List.length_map, List.take_length] at g4
        have el4 := s4 _ _ el
        have hl3 := g3.length
        have hl4 := g4.length
        rw [List.length_map] at hl3
        rw [List.length_map, List.length_map] at hl4
        have hfl := List.length_filter_le (fun c => decide (lv tb c = lv tb e.1)) e.2
        have htl := tP_take_le (tb := tb) (w := t.wk) i
        refine ⟨l0, acc, ys, zs, rfl, rfl, el4, e4, sizeBig' (by lia), ?_⟩
        refine hN _ _ ⟨_, _, _, rfl, same_upd (s3.trans s4) hn0, upd_same, ?_⟩
        rw [htk, List.map_append]
        exact (pairs_upd el4 (g3.mono s4)).append (pairs_upd el4 g4)
    · rintro σ H3 ⟨z1, z2, ys, rfl, s3, el, g3⟩
      rw [List.take_of_length_le (by rw [Tr.wk_length]; lia)] at g3
      exact ⟨_, rfl, q l0 H3 ys n1 (sHB.trans s3) el g3⟩
end
end K43C
namespace HS
open PySem PySem.W PyProof.Rows
theorem ints_get : ∀ {vs : List Value} {ns : List Int}, IntsAre vs ns → ∀ j (h : j < ns.length), ∃ t, vs[j]? = some (.int ns[j] t)
  | _, _, .cons n t _, 0, _ => ⟨t, rfl⟩
  | _, _, .cons n t r, j + 1, h => by simpa using ints_get r j (by simpa using h)
section
open PySem.SeqAt
open PySem.AutoSeq1 (wpAny_loadPart')
open PySem.MeetsSeq PySem.MeetsSeq2 PySem.MeetsSeq3
theorem lt_loop (l b : Addr) (items items2 : Array Value) (n n2 : Nat) (dd dd2 : Option Addr) (sl sl2 : Array (Option Value)) (ns ms : List Int) (hi : IntsAre items.toList ns) (hj : IntsAre items2.toList ms) (k : Nat) :
    ∀ i : Nat, items.size - i = k → i ≤ items.size → i ≤ items2.size → Meets (Builtin.«list.__eq__.loop» ⟨[.ref l, .ref b, rawInt i, rawInt 0], []⟩)
      (fun _ R s => s.heap.get? l = some { cls := .type "list", dict := dd, data := .seq items n, slots := sl } ∧ s.heap.get? b = some { cls := .type "list", dict := dd2, data := .seq items2 n2, slots := sl2 } ∧
        R (.ok (.ret (.bool (HT.lexLt (ns.drop i) (ms.drop i))))) s) := by
  have z1 : items.size = ns.length := by rw [← hi.length]; simp
  have z2 : items2.size = ms.length := by rw [← hj.length]; simp
  have at1 : ∀ j (h : j < ns.length), ∃ t, items[j]? = some (.int ns[j] t) := fun j h => by
    obtain ⟨t, ht⟩ := ints_get hi j h
    exact ⟨t, by rw [← Array.getElem?_toList]; exact ht⟩
  have at2 : ∀ j (h : j < ms.length), ∃ t, items2[j]? = some (.int ms[j] t) := fun j h => by
    obtain ⟨t, ht⟩ := ints_get hj j h
    exact ⟨t, by rw [← Array.getElem?_toList]; exact ht⟩
  induction k with
  | zero =>
    intro i hk h1 h2 prog w A R s h
    obtain ⟨hp, g, d, tk, os⟩ := s; obtain ⟨hl, hb, h⟩ := h
    wp_walk using wpAny_loadPart' hl, wpAny_loadPart' hb
    have hi1 : items[((i : Nat) : Int).toNat]? = none := by simp; lia
    rw [List.drop_eq_nil_of_le (by lia)] at h
    rw [hi1]
    wp_walk using wpAny_loadPart' hl, wpAny_loadPart' hb
    show R (.ok (.ret (.bool (decide (items.size < items2.size))))) _
    cases hm : ms.drop i with
    | nil =>
      rw [hm] at h
      have : ms.length ≤ i := List.drop_eq_nil_iff.mp hm
      rw [decide_eq_false (by lia)]
      exact h
    | cons y ys =>
      rw [hm] at h
      have : (ms.drop i).length = ys.length + 1 := by rw [hm]; rfl
      rw [List.length_drop] at this
      rw [decide_eq_true (by lia)]
      exact h
  | succ k ih =>
    intro i hk h1 h2 prog w A R s h
    obtain ⟨hp, g, d, tk, os⟩ := s; obtain ⟨hl, hb, h⟩ := h
    wp_walk using wpAny_loadPart' hl, wpAny_loadPart' hb
    have hlt : i < ns.length := by lia
    obtain ⟨t, ht⟩ := at1 i hlt
    have hi1 : items[((i : Nat) : Int).toNat]? = some (.int ns[i] t) := ht
    rw [hi1]
    rw [List.drop_eq_getElem_cons hlt] at h
    by_cases hlt2 : i < ms.length
    · obtain ⟨u, hu⟩ := at2 i hlt2
      have hi2 : items2[((i : Nat) : Int).toNat]? = some (.int ms[i] u) := hu
      rw [hi2]
      rw [List.drop_eq_getElem_cons hlt2, HT.lexLt_cons] at h
      have hc : ((i : Int) + 1) = ((i + 1 : Nat) : Int) := by push_cast; rfl
      refine wpAny_bind (wpAny_eqBool_int ?_)
      by_cases e : ns[i] = ms[i]
      · rw [if_pos e] at h
        rw [show (ns[i] == ms[i]) = true by simpa using e]
        wp_walk
        rw [hc]
        exact ⟨plainId_quiet plain_eq_loop _, codeAny_builtin entry_eq_loop (by
          rw [Around.under_plainId plain_eq_loop _]
          exact ih (i + 1) (by lia) (by lia) (by lia) prog w A R _ ⟨hl, hb, h⟩)⟩
      · rw [if_neg e] at h
        rw [show (ns[i] == ms[i]) = false by simpa using e]
        wp_walk using wpAny_loadPart' hl, wpAny_loadPart' hb
        rw [hi1, hi2]
        have hri := HT.rcLt_int A.in1 ⟨hp, g, d, tk, os⟩ ns[i] t ms[i] u prog w
        wp_walk using hri
        exact h
    · have hi2 : items2[((i : Nat) : Int).toNat]? = none := by
        show items2[i]? = none
        simp; lia
      rw [hi2]
      rw [List.drop_eq_nil_of_le (by lia : ms.length ≤ i)] at h
      wp_walk using wpAny_loadPart' hl, wpAny_loadPart' hb
      show R (.ok (.ret (.bool (decide (items.size < items2.size))))) _
      rw [decide_eq_false (by lia)]
      exact h
theorem list_lt_ints (l b : Addr) (items items2 : Array Value) (n n2 : Nat) (dd dd2 : Option Addr) (sl sl2 : Array (Option Value)) (ns ms : List Int) (hi : IntsAre items.toList ns) (hj : IntsAre items2.toList ms) :
    Meets (Builtin.«list.__lt__» ⟨[.ref l, .ref b], []⟩)
      (fun _ R s => s.heap.get? l = some { cls := .type "list", dict := dd, data := .seq items n, slots := sl } ∧ s.heap.get? b = some { cls := .type "list", dict := dd2, data := .seq items2 n2, slots := sl2 } ∧
        R (.ok (.ret (.bool (HT.lexLt ns ms)))) s) := by
  intro prog w A R s h
  obtain ⟨hp, g, d, tk, os⟩ := s; obtain ⟨hl, hb, h⟩ := h
  have f3 := AutoSeq1.sub_list_list
  wp_walk using wpAny_loadPart' hl, wpAny_loadPart' hb
  exact ⟨plainId_quiet plain_eq_loop _, codeAny_builtin entry_eq_loop (by
    rw [Around.under_plainId plain_eq_loop _]
    exact lt_loop l b items items2 n n2 dd dd2 sl sl2 ns ms hi hj _ 0 rfl (Nat.zero_le _) (Nat.zero_le _) prog w A R _ ⟨hl, hb, h⟩)⟩
end
section
variable {prog : Program} {w : World} {A : Around} {E : Value → Shared → Prop} {s : Shared}
noncomputable def LstIs (h : Heap) (v : Value) (ns : List Int) : Prop := ∃ a its, v = .ref a ∧ h.IsList a its ∧ IntsAre its.toList ns
theorem LstIs.kept {h h' : Heap} {v : Value} {ns : List Int} (t : LstIs h v ns) (k : ∀ b o, h.get? b = some o → h'.get? b = some o) : LstIs h' v ns := by
  obtain ⟨a, its, rfl, ⟨o, q, c⟩, i⟩ := t
  exact ⟨a, its, rfl, ⟨o, k a o q, c⟩, i⟩
theorem one_list {x y : Value} {ns ms : List Int} {Q : Bool → Shared → Prop} (hx : LstIs s.heap x ns) (hy : LstIs s.heap y ms) (hu : A.units < cLine) (h : Q (HT.lexLt ns ms) s) : wpAny (model prog w) A (oneLt' true x y) Q E s := by
  obtain ⟨a, its, rfl, ⟨⟨cls, dd, data, sl⟩, ho, hc, n, hd⟩, hi⟩ := hx
  obtain ⟨b, its2, rfl, ⟨⟨cls2, dd2, data2, sl2⟩, ho2, hc2, n2, hd2⟩, hj⟩ := hy
  simp only at hc hd hc2 hd2
  subst hc hd hc2 hd2
  rw [oneLt'_eq]
  simp only [if_true]
  refine wpAny_bind (wpAny_cRoomFor hu ?_)
  refine wpAny_bind (wpAny_callSpecialIfBound?_slot ⟨_, ho, rfl⟩ PySem.F.slot_list_lt (call_meets PySem.F.slot_list_lt ⟨_, ho, rfl⟩ PySem.F.entry_list_lt (PySem.F.args_list_lt_2 _ _) (list_lt_ints a b its its2 n n2 dd dd2 sl sl2 ns ms hi hj) ⟨ho, ho2, ?_⟩))
  exact wpAny_truthy_bool h
theorem lst_getD {h : Heap} : ∀ {vs : List Value} {L : List (List Int)}, F2 (LstIs h) vs L → ∀ i, i < vs.length → LstIs h (vs.getD i .none) (L.getD i [])
  := by
  intro vs L t
  induction t with
  | nil => intro i hi; cases hi
  | cons t r ih =>
    intro i hi
    cases i with
    | zero => exact t
    | succ i => simpa using ih i (by simpa using hi)
theorem lst_ty {h : Heap} : ∀ {vs : List Value} {L : List (List Int)}, F2 (LstIs h) vs L → ∀ v ∈ vs, Looks (model prog w) h (typeOf v) (.type "list")
  := by
  intro vs L t
  induction t with
  | nil => intro v hv; cases hv
  | cons t r ih =>
    intro v hv
    rcases List.mem_cons.mp hv with rfl | hv
    · obtain ⟨a, its, rfl, ⟨o, ho, hc, _⟩, _⟩ := t
      rw [← hc]
      exact (Looks.ld ho).andThen .now
    · exact ih v hv
theorem asks_lists {vs : List Value} {L : List (List Int)} (t : F2 (LstIs s.heap) vs L) (two : 2 ≤ vs.length) (hu : A.units < cLine) : Asks prog w A vs (rk L) s := by
  have hl : vs.length = L.length := t.length_eq
  refine kas_kind (T := .type "list") two (lst_ty t) rfl rfl ⟨rfl, fun i j C hi hj hc => ?_⟩
  rw [rk_lt (by lia) (by lia)] at hc
  unfold kas_ask
  rw [keyLt'_oneType]
  exact one_list (lst_getD t i hi) (lst_getD t j hj) hu hc
theorem sorted_lists {l : Addr} {vs : List Value} {L : List (List Int)} {Q : Value → Shared → Prop} (hl : s.heap.IsList l vs.toArray) (few : vs.length < 64) (t : F2 (LstIs s.heap) vs L) (hu : A.units + 2 < cLine)
    (fin : ∀ p, Ar vs.length p → Srt (rk L) p vs.length → Q (.ref (s.heap.objs.size + 1)) { s with heap := sortedAll s.heap vs (outOf vs p).toArray }) : wpAny (model prog w) A (call (.builtin "sorted") [.ref l]) Q E s :=
  gsorted hl few (fun two h' k => asks_lists (t.imp fun _ _ q => q.kept k) two (by show A.units + 1 + 1 < cLine; lia)) fin
end
end HS
namespace L3
open PySem PySem.Spec PyProof.Rows L2
section
variable {X : Cx}
noncomputable def rSortLL (K : PySem.W.Frag) : List V → Hp → VK → Prop := fun xs H Q => ∃ (p : Addr) (zs : List (Addr × List Int)), xs = [.ref p] ∧ SqL K H p (zs.map fun z => V.ref z.1) ∧ zs.length < 64 ∧ (∀ z ∈ zs, H z.1 = some (.lst (z.2.map V.int))) ∧
  ∀ (q : Addr) (H' : Hp) (ys : List (Addr × List Int)), H q = none → Same H H' → H' q = some (.lst (ys.map fun z => V.ref z.1)) → (∀ b, b ≠ q → H' b = H b) → ys.Perm zs → ys.Pairwise (fun a b => HT.lexLt b.2 a.2 = false) → Q (.ref q) H'
theorem call_sortLL (hu : X.A.units + 2 < cLine) : CallR X (.builtin "sorted") (rSortLL X.K) := by
  intro pins s σ H xs us Q I rv h
  obtain ⟨p, zs, rfl, hp, hn, ht, q⟩ := h
  obtain ⟨u, rfl, ru⟩ := vals1 rv
  cases ru
  obtain ⟨its, r, pl, hz⟩ := I.list hp
  have hi := vals_rf_inv r
  subst hi
  have tt : HS.F2 (HS.LstIs s.heap) (zs.map fun z => Value.ref z.1) (zs.map (·.2)) := by
    clear hp r pl hz hn q rv
    induction zs with
    | nil => exact .nil
    | cons z zs ih =>
      refine .cons ?_ (ih fun y hy => ht y (.tail _ hy))
      obtain ⟨its, r1, p1, _⟩ := I.list (show SqL X.K H z.1 (z.2.map V.int) from SqL.of (ht z (.head _)))
      exact ⟨_, _, rfl, p1.isList, by simpa using intsAre_of r1⟩
  have len : (zs.map fun z => Value.ref z.1).length = zs.length := List.length_map ..
  refine HS.sorted_lists pl.isList (by lia) tt hu fun pp a1 a2 => ?_
  rw [len] at a1 a2
  obtain ⟨b1, b2⟩ := HS.srt_pairs (0, []) a1 a2
  obtain ⟨e, he⟩ := sortedAll_at s.heap (zs.map fun z => Value.ref z.1) (HS.outOf (zs.map fun z => Value.ref z.1) pp).toArray
  have hf : H (s.heap.objs.size + 1) = none := I.hok.fresh (Nat.le_succ _)
  have out : HS.outOf (zs.map fun z => Value.ref z.1) pp = (pp.toList.map fun i => zs.getD i (0, [])).map fun z => Value.ref z.1 := by
    unfold HS.outOf
    rw [List.map_map]
    refine List.map_congr_left fun i hi => ?_
    have : i < zs.length := List.mem_range.mp (a1.mem_iff.mp hi)
    simp [List.getD_eq_getElem?_getD, this]
  have ln : (pp.toList.map fun i => zs.getD i (0, [])).length = zs.length := b1.length_eq
  refine ⟨.ref (s.heap.objs.size + 1), _, I.laid (t' := s.toks) (o := .lst ((pp.toList.map fun i => zs.getD i (0, [])).map fun z => V.ref z.1)) (fun b ob q => sortedAll_old q) (Nat.le_succ _)
    ⟨by rw [List.length_map, ln]; exact Nat.le_of_lt (Nat.lt_of_lt_of_le hn (by decide)), _, e, vals_rf (f := fun z : Addr × List Int => z.1) _, by rw [← out]; exact he⟩, rfl, q _ _ _ hf (same_new hf) upd_same (fun b hb => upd_ne hb) b1 b2⟩
theorem fSortLL {k : Nat} {A : Around} (K : PySem.W.Frag) (hr : Room k A) (hA : X.A = A := by rfl) (hK : X.K = K := by rfl) : RCall X (.builtin "sorted") (rSortLL K) := by subst hK; exact .mk (call_sortLL (by rw [hA]; have := hu_n hr; lia))
end
end L3
namespace K43C
open PySem L2 L3 K43
inductive PD (H : Hp) : List (Key × V) → PTab → Prop where
  | nil : PD H [] []
  | cons {k : Int} {p : List Int} {b : Addr} {kvs : List (Key × V)} {ps : PTab} : H b = some (.lst (p.map V.int)) → PD H kvs ps → PD H ((Sum.inl k, .ref b) :: kvs) ((k, p) :: ps)
theorem PD.mono {H H' : Hp} {kvs : List (Key × V)} {ps : PTab} (h : PD H kvs ps) (s : Same H H') : PD H' kvs ps := by
  induction h with
  | nil => exact .nil
  | cons e _ ih => exact .cons (s _ _ e) ih
theorem PD.off {H : Hp} {kvs : List (Key × V)} {ps : PTab} {d : Addr} {xs : List (Key × V)} {o' : HO} (h : PD H kvs ps) (hd : H d = some (.dK xs)) : PD (L2.upd H d o') kvs ps := by
  induction h with
  | nil => exact .nil
  | cons e _ ih => exact .cons (by rw [upd_ne (fun z => by rw [z, hd] at e; cases e)]; exact e) ih
theorem PD.rmd {H : Hp} {kvs : List (Key × V)} {ps : PTab} {d : Addr} {xs : List (Key × V)} (h : PD H kvs ps) (hd : H d = some (.dK xs)) : PD (rm d H) kvs ps := by
  induction h with
  | nil => exact .nil
  | cons e _ ih => exact .cons (by rw [rm_ne (fun z => by rw [z, hd] at e; cases e)]; exact e) ih
theorem PD.length {H : Hp} {kvs : List (Key × V)} {ps : PTab} (h : PD H kvs ps) : kvs.length = ps.length := by
  induction h with
  | nil => rfl
  | cons _ _ ih => rw [List.length_cons, List.length_cons, ih]
theorem PD.append {H : Hp} {a b : List (Key × V)} {s t : PTab} (h : PD H a s) (h' : PD H b t) : PD H (a ++ b) (s ++ t) := by
  induction h with
  | nil => exact h'
  | cons e _ ih => exact .cons e ih
theorem PD.val {H : Hp} {kvs : List (Key × V)} {ps : PTab} (h : PD H kvs ps) {c : Int} (hc : c ∈ ps.map (·.1)) : ∃ b, valV kvs (Sum.inl c : Key) = some (.ref b) ∧ H b = some (.lst ((lkP ps c).map V.int)) := by
  induction h with
  | nil => simp at hc
  | @cons k p b kvs ps e _ ih =>
    by_cases hk : k = c
    · subst hk
      exact ⟨b, valV_pos rfl, by simpa [lkP] using e⟩
    · obtain ⟨b', h1, h2⟩ := ih (by
        rw [List.map_cons, List.mem_cons] at hc
        rcases hc with z | z
        · exact absurd z.symm hk
        · exact z)
      refine ⟨b', by rw [valV_neg (by simpa using hk)]; exact h1, ?_⟩
      have : lkP ((k, p) :: ps) c = lkP ps c := by unfold lkP; rw [List.find?_cons]; simp [hk]
      rw [this]; exact h2
theorem PD.none {H : Hp} {kvs : List (Key × V)} {ps : PTab} (h : PD H kvs ps) {k : Int} (hk : k ∉ ps.map (·.1)) : valV kvs (Sum.inl k : Key) = Option.none := by
  induction h with
  | nil => rfl
  | @cons k' p b kvs ps e _ ih =>
    simp only [List.map_cons, List.mem_cons, not_or] at hk
    rw [valV_neg (by simpa using fun z => hk.1 z.symm)]
    exact ih hk.2
theorem PD.put {H : Hp} {kvs : List (Key × V)} {ps : PTab} (h : PD H kvs ps) {k : Int} {p : List Int} {b : Addr} (hk : k ∉ ps.map (·.1)) (eb : H b = some (.lst (p.map V.int))) : PD H (putK kvs (Sum.inl k : Key) (.ref b)) (ps ++ [(k, p)]) := by
  rw [putK_new _ (h.none hk)]
  exact h.append (.cons eb .nil)
theorem PD.drop {H : Hp} {kvs : List (Key × V)} {ps : PTab} (h : PD H kvs ps) (c : Int) : PD H (dropK kvs (Sum.inl c : Key)) (ps.filter fun e => decide (e.1 ≠ c)) := by
  induction h with
  | nil => exact .nil
  | @cons k p b kvs ps e _ ih =>
    unfold dropK at ih ⊢
    by_cases hk : k = c
    · subst hk
      rw [List.filter_cons, List.filter_cons, if_neg (by simp), if_neg (by simp)]
      exact ih
    · rw [List.filter_cons, List.filter_cons, if_pos (by simpa using hk), if_pos (by simpa using hk)]
      exact .cons e ih
theorem PD.get {H : Hp} {kvs : List (Key × V)} {ps : PTab} (h : PD H kvs ps) {i : Nat} {k : Key} {x : V} (hi : kvs[i]? = some (k, x)) : ∃ e b, ps[i]? = some e ∧ x = .ref b ∧ H b = some (.lst (e.2.map V.int)) := by
  induction h generalizing i with
  | nil => simp at hi
  | @cons k' p b kvs ps e _ ih =>
    cases i with
    | zero =>
      simp at hi
      exact ⟨(k', p), b, rfl, hi.2.symm, e⟩
    | succ i => exact ih (by simpa using hi)
noncomputable def tot (D : PTab) : Nat := (D.map fun e => e.2.length).sum
theorem lkP_none : ∀ {D : PTab} {c : Int}, c ∉ D.map (·.1) → lkP D c = []
  | [], _, _ => rfl
  | e :: D, c, h => by
    simp only [List.map_cons, List.mem_cons, not_or] at h
    have := lkP_none (D := D) (c := c) h.2
    unfold lkP at this ⊢
    rw [List.find?_cons]
    have hne : ¬ e.1 = c := fun z => h.1 z.symm
    simp only [hne, decide_false]
    exact this
theorem tot_pop : ∀ (D : PTab) (c : Int), (D.map (·.1)).Nodup → tot (D.filter fun e => decide (e.1 ≠ c)) + (lkP D c).length = tot D
  | [], _, _ => rfl
  | e :: D, c, hn => by
    obtain ⟨h1, h2⟩ := List.nodup_cons.mp (show (e.1 :: D.map (·.1)).Nodup from hn)
    have ih := tot_pop D c h2
    have t1 : tot (e :: D) = e.2.length + tot D := by simp [tot]
    by_cases hk : e.1 = c
    · subst hk
      have f : (e :: D).filter (fun x => decide (x.1 ≠ e.1)) = D.filter (fun x => decide (x.1 ≠ e.1)) := by rw [List.filter_cons, if_neg (by simp)]
      have l1 : lkP (e :: D) e.1 = e.2 := by simp [lkP]
      rw [f, l1, t1]
      rw [lkP_none h1, List.length_nil, Nat.add_zero] at ih
      lia
    · have f : (e :: D).filter (fun x => decide (x.1 ≠ c)) = e :: D.filter (fun x => decide (x.1 ≠ c)) := by rw [List.filter_cons, if_pos (by simpa using hk)]
      have l1 : lkP (e :: D) c = lkP D c := by unfold lkP; rw [List.find?_cons]; simp [hk]
      have t2 : tot (e :: D.filter fun x => decide (x.1 ≠ c)) = e.2.length + tot (D.filter fun x => decide (x.1 ≠ c)) := by simp [tot]
      rw [f, l1, t1, t2]
      lia
theorem tot_mem : ∀ {D : PTab} {e : Int × List Int}, e ∈ D → e.2.length ≤ tot D
  | x :: D, e, h => by
    have t1 : tot (x :: D) = x.2.length + tot D := by simp [tot]
    rcases List.mem_cons.mp h with rfl | h
    · lia
    · have := tot_mem h; lia
noncomputable def spPages : Sp := fun vs H Q _ => ∃ (v : V) (t : Tr) (room : Int) (td : Addr) (ts : List Int), vs = [v, .ref td] ∧ Rep H v (Tr.d t) ∧ t.ht < 80 ∧ t.size ≤ 60 ∧ t.keys.Nodup ∧ H td = some (.lst (ts.map V.int)) ∧ TdOk room ts t ∧
  ∀ r H' bs L, H r = none → Same H H' → H' r = some (.lst (bs.map V.ref)) → Pgs H' bs L → (∀ b ∈ bs, H b = none ∧ b ≠ r) → bs.Nodup → L.Perm (((en room t).map (·.2)).map so) → LexS L → Q (.ref r) H'
theorem pgs_of_pairs {H : Hp} : ∀ {ys : List (Addr × List Int)}, (∀ z ∈ ys, H z.1 = some (.lst (z.2.map V.int))) → Pgs H (ys.map (·.1)) (ys.map (·.2))
  | [], _ => trivial
  | y :: ys, h => ⟨h y (.head _), pgs_of_pairs fun z hz => h z (.tail _ hz)⟩
section
variable {P : Program} {w : World} {K : PySem.W.Frag} {mg : Str → Option Value} {base : Heap}
theorem ok_pages {f : Addr} (F : Fd K mg "pages_tied" s_pages_tied f) (T : Tx K mg) (C_with_kids : Cal P w K mg base CX0 80 "with_kids" (spWk 80)) : Cal P w K mg base CX0 82 "pages_tied" spPages := by
  refine F.cal sc_pages_tied (fun _ _ _ _ _ _ us hl => L3.bind2 (fun _ _ => rfl) us hl) (fun vs H Q E h => ?_) (fun cdv A outer s H vs Q E hr h => ?_)
  · obtain ⟨v, t, room, td, ts, rfl, _⟩ := h; rfl
  · obtain ⟨v, t, room, td, ts, rfl, hv, ht, hz, hnd, etd, hok, q⟩ := h
    refine ⟨_, (bcons (sset (i := 2) sc_pages_tied.nd rfl (by first | exact Or.inl rfl | exact Or.inr rfl) qdict)
      (bcons (sfor PassesOwn.never rfl (iseq K (qF C_with_kids (hr.mono (by lia)) pass0 rfl (qcons (qv 0) qnil))) (gtup (n := 2) K rfl (gscons (gname (i := 3) sc_pages_tied.nd rfl (by first | exact Or.inl rfl | exact Or.inr rfl)) (gscons (gname (i := 4) sc_pages_tied.nd rfl (by first | exact Or.inl rfl | exact Or.inr rfl)) gsnil)))
        (bcons (sset (i := 5) sc_pages_tied.nd rfl (by first | exact Or.inl rfl | exact Or.inr rfl) (qlst (qcons (qv 3) qnil)))
        (bcons (sfor PassesOwn.never rfl (iseq K (qv 4)) (gname (i := 6) sc_pages_tied.nd rfl (by first | exact Or.inl rfl | exact Or.inr rfl))
          (bone (sif (tcmp (rInn K) (qv 6) (qv 1) (by with_unfolding_all rfl)) (bone (sexpr (qBm K PySem.F.plainAttrs_list PySem.F.slot_list_extend PySem.F.type_list_extend mExtend (qv 5) (qcons (qdp1 (qv 2) (qv 6)) qnil)))) bnil)))
        (bone (sdput hr (qv 2) (qv 3) (qv 5) rfl)))))
      (bone (sret (qB (fSortLL K hr) rfl T.b_sorted bt_sorted (qcons (qcomp (sc := defScope s_pages_tied) (NX := ["tree", "tied", "pages", "key", "kids", "page", "kid"]) ["page"] [none] rfl (ivals (qv 2)) (fun _ _ _ => (gname (i := 0) (show (["page"] : List Str).Nodup by decide +kernel) rfl (by first | exact Or.inl rfl | exact Or.inr rfl))) (fun _ _ _ => csnil) (fun _ _ _ => (qB (fSort K) rfl T.b_sorted bt_sorted (qcons (qv 0) qnil))) rfl rfl (by decide +kernel)) qnil)))))), ?_⟩
    refine fun d H1 n1 s1 e1 _ => ?_
    refine ⟨_, rfl, v, t, rfl, hv.mono s1, ht, by lia, fun r H2 ws n2 s2 e2 x2 g2 => ?_⟩
    have ed2 := s2 _ _ e1
    have hrd : r ≠ d := fun z => by rw [z, e1] at n2; cases n2
    have gB : Reps (rm d H2) ws (t.wk.map kidD) := x2 _ _ e1
    have eB : rm d H2 r = some (.lst ws) := by rw [rm_ne hrd]; exact e2
    have sHB : Same H (rm d H2) := fun b o hb => by rw [rm_ne (ne_of_none hb n1)]; exact s2 _ _ (s1 _ _ hb)
    have hlw := g2.length
    rw [List.length_map, Tr.wk_length] at hlw
    have OKF := okF_tree room ts t [] hnd hok (fun e he => by cases he) List.nodup_nil
    have hfold := fold_en room ts t [] hnd hok (fun e he => by cases he)
    refine ⟨r, rfl, .inl ⟨⟨_, SqL.of e2⟩, for_listN (xs := ws) (fun i σ H' => ∃ z3 z4 z5 z6 kvs ps, σ = [some v, some (.ref td), some (.ref d), z3, z4, z5, z6] ∧ Same (rm d H2) H' ∧ H' d = some (.dK kvs) ∧ PD H' kvs ps ∧ ps = (t.wk.take i).foldl (stp ts) [] ∧ tot ps = i ∧ ps.length ≤ i)
      ⟨none, none, none, none, [], [], rfl, rm_same, ed2, .nil, rfl, rfl, Nat.le_refl _⟩ (fun i σ H' _ hh => by obtain ⟨_, _, _, _, _, _, _, s', _⟩ := hh; exact SqL.of (s' _ _ eB)) ?_ ?_⟩⟩
    · rintro N B R i x σ H3 hx hN _ _ ⟨z3, z4, z5, z6, kvs, ps, rfl, s3, ed, pd, hps, htot, hpl⟩
      have hi : i < ws.length := (List.getElem?_eq_some_iff.mp hx).1
      obtain ⟨e, he, ge⟩ := reps_map gB hx
      obtain ⟨b, c, rfl, eb, ec⟩ := rep_kid ge
      have eb3 := s3 _ _ eb
      have ec3 := s3 _ _ ec
      have etd3 : H3 td = some (.lst (ts.map V.int)) := s3 _ _ (sHB _ _ etd)
      obtain ⟨ok1, ok2, ok3, ok4⟩ := okF_at ts t.wk [] i e OKF he
      rw [← hps] at ok1 ok3 ok4
      have hstp : (t.wk.take (i + 1)).foldl (stp ts) [] = stp ts ps e := by rw [List.take_add_one, he, List.foldl_append, ← hps]; rfl
      refine ⟨b, _, rfl, SqT.of eb3, rfl, _, _, rfl, _, _, rfl, rfl, ?_⟩
      refine ⟨_, rfl, (show 1 ≤ sizeLine by decide), fun pg H4 n4 s4 e4 _ => ?_⟩
      have hdp : d ≠ pg := fun z => by rw [z, n4] at ed; cases ed
      have hcd : c ≠ d := fun z => by rw [z, rm_self] at ec; cases ec
      have hcp : c ≠ pg := fun z => by rw [z, n4] at ec3; cases ec3
      have htp : td ≠ pg := fun z => by rw [z, n4] at etd3; cases etd3
      have htdd : td ≠ d := ne_of_none etd n1
      refine ⟨_, rfl, c, rfl, .inl ⟨⟨_, SqL.of (s4 _ _ ec3)⟩, for_listN (xs := e.2.map V.int) (fun j σ H' => ∃ z6 kvs' D p, σ = [some v, some (.ref td), some (.ref d), some (.int e.1), some (.ref c), some (.ref pg), z6] ∧ Same (rm pg (rm d H4)) H' ∧ H' d = some (.dK kvs') ∧ H' pg = some (.lst (p.map V.int)) ∧ PD (rm pg H') kvs' D ∧ (D, p) = (e.2.take j).foldl (stK ts) (ps, [e.1]) ∧
          (D.map (·.1)).Nodup ∧ tot D + p.length = i + 1 ∧ (∀ c ∈ e.2.drop j, c ∈ D.map (·.1)) ∧ (∀ x ∈ D.map (·.1), x ∈ ps.map (·.1)) ∧ D.length ≤ ps.length)
        ⟨z6, kvs, ps, [e.1], rfl, fun x o hx => by
            have h1 : x ≠ pg := fun z => by rw [z, rm_self] at hx; cases hx
            rw [rm_ne h1] at hx
            exact rm_same _ _ hx, s4 _ _ ed, e4, pd.mono (rm_of s4 n4), rfl, ok4, by rw [htot]; rfl, fun c hc => ok1 c (by simpa using hc), fun x hx => hx, Nat.le_refl _⟩
        (fun j σ H' _ hh => by obtain ⟨_, _, _, _, _, s', _⟩ := hh; exact SqL.of (s' _ _ (by rw [rm_ne hcp, rm_ne hcd]; exact s4 _ _ ec3))) ?_ ?_⟩⟩
      · rintro N1 B1 R1 j y σ H5 hy hN1 _ _ ⟨z6', kvs', D, p, rfl, s5, ed5, ep5, pd5, hDp, hDn, hDt, hDc, hDs, hDl⟩
        rw [List.getElem?_map] at hy
        obtain ⟨kk, hkk, rfl⟩ := Option.map_eq_some_iff.mp hy
        have etd5 : H5 td = some (.lst (ts.map V.int)) := s5 _ _ (by rw [rm_ne htp, rm_ne htdd]; exact s4 _ _ etd3)
        have hdrop : e.2.drop j = kk :: e.2.drop (j + 1) := by
          obtain ⟨hj, hj'⟩ := List.getElem?_eq_some_iff.mp hkk
          rw [List.drop_eq_getElem_cons hj, hj']
        have hst : (e.2.take (j + 1)).foldl (stK ts) (ps, [e.1]) = stK ts (D, p) kk := by rw [List.take_add_one, hkk, List.foldl_append, ← hDp]; rfl
        refine ⟨_, rfl, _, rfl, td, _, rfl, .inl (SqL.of etd5), rfl, flat_ints _, _, rfl, ?_⟩
        rw [inV_ints]
        by_cases hin : kk ∈ ts
        · rw [decide_eq_true hin]
          refine iteT ?_
          have hkD : kk ∈ D.map (·.1) := hDc kk (by rw [hdrop]; exact .head _)
          obtain ⟨bp, hv1, hb1⟩ := pd5.val hkD
          have hbp : bp ≠ pg := fun z => by rw [z, rm_self] at hb1; cases hb1
          rw [rm_ne hbp] at hb1
          have hbd : bp ≠ d := fun z => by rw [z, ed5] at hb1; cases hb1
          have htp := tot_pop D kk hDn
          refine ⟨_, rfl, .inl ⟨rfl, _, SqL.of ep5⟩, _, rfl, d, rfl, .inl ⟨_, .inl ed5⟩, _, rfl, kvs', (Sum.inl kk : Key), .ref bp, ed5, rfl, hv1, ?_⟩
          refine ⟨pg, bp, _, _, rfl, rfl, by rw [upd_ne hdp.symm]; exact ep5, by rw [upd_ne hbd]; exact hb1, sizeBig' (by rw [List.length_map, List.length_map]; lia), ?_⟩
          have hst' : stK ts (D, p) kk = (D.filter (fun e => decide (e.1 ≠ kk)), p ++ lkP D kk) := by unfold stK; rw [if_pos hin]
          refine hN1 _ _ ⟨_, dropK kvs' (Sum.inl kk), D.filter (fun e => decide (e.1 ≠ kk)), p ++ lkP D kk, rfl, same_upd (same_upd s5 (by rw [rm_ne hdp]; exact rm_self)) rm_self, by rw [upd_ne hdp, upd_same], by rw [upd_same, List.map_append], ?_, by rw [hst, hst'], ?_, ?_, ?_, ?_, ?_⟩
          · rw [rm_upd]
            have : PD (upd (rm pg H5) d (.dK (dropK kvs' (Sum.inl kk)))) (dropK kvs' (Sum.inl kk)) (D.filter fun e => decide (e.1 ≠ kk)) := (pd5.drop kk).off (xs := kvs') (by rw [rm_ne hdp]; exact ed5)
            refine this.mono fun x o hx => ?_
            by_cases hxd : x = d
            · subst hxd
              rw [upd_same] at hx
              rw [rm_ne hdp, upd_same]; exact hx
            · rw [upd_ne hxd] at hx
              have hxp : x ≠ pg := fun z => by rw [z, rm_self] at hx; cases hx
              rw [rm_ne hxp] at hx
              rw [rm_ne hxp, upd_ne hxd]; exact hx
          · exact List.Nodup.sublist (List.Sublist.map _ List.filter_sublist) hDn
          · rw [List.length_append]; lia
          · intro c hc
            have h1 := hDc c (by rw [hdrop]; exact .tail _ hc)
            obtain ⟨x, hx, rfl⟩ := List.mem_map.mp h1
            have hne : x.1 ≠ kk := fun z => by
              have hnd' : (kk :: e.2.drop (j + 1)).Nodup := by rw [← hdrop]; exact List.Nodup.sublist (List.drop_sublist _ _) ok2
              exact (List.nodup_cons.mp hnd').1 (by rw [← z]; exact hc)
            exact List.mem_map.mpr ⟨x, List.mem_filter.mpr ⟨hx, decide_eq_true hne⟩, rfl⟩
          · intro x hx
            obtain ⟨y, hy, rfl⟩ := List.mem_map.mp hx
            exact hDs _ (List.mem_map.mpr ⟨y, (List.mem_filter.mp hy).1, rfl⟩)
          · have := List.length_filter_le (fun e : Int × List Int => decide (e.1 ≠ kk)) D
            lia
        · rw [decide_eq_false hin]
          refine iteF ?_
          have hst' : stK ts (D, p) kk = (D, p) := by unfold stK; rw [if_neg hin]
          exact hN1 _ _ ⟨_, kvs', D, p, rfl, s5, ed5, ep5, pd5, by rw [hst, hst'], hDn, hDt, fun c hc => hDc c (by rw [hdrop]; exact .tail _ hc), hDs, hDl⟩
      · rintro σ H5 ⟨z6', kvs', D, p, rfl, s5, ed5, ep5, pd5, hDp, hDn, hDt, hDc, hDs, hDl⟩
        rw [List.length_map, List.take_length] at hDp
        have hkl := pd5.length
        have he1 : e.1 ∉ D.map (·.1) := fun h => ok3 (hDs _ h)
        refine ⟨_, rfl, _, rfl, _, rfl, d, _, rfl, DPut.k (k := (Sum.inl e.1 : Key)) ed5 (sizeBig (by lia)), ?_⟩
        have hsd : stp ts ps e = D ++ [(e.1, p)] := by unfold stp; rw [← hDp]
        refine hN _ _ ⟨_, _, _, _, putK kvs' (Sum.inl e.1) (.ref pg), D ++ [(e.1, p)], rfl, ?_, upd_same, ?_, by rw [hstp, hsd], ?_, ?_⟩
        · refine same_upd (fun x o hx => ?_) rm_self
          have hxd : x ≠ d := fun z => by rw [z, rm_self] at hx; cases hx
          have h3 := s3 _ _ hx
          have hxp : x ≠ pg := ne_of_none h3 n4
          exact s5 _ _ (by rw [rm_ne hxp, rm_ne hxd]; exact s4 _ _ h3)
        · exact ((pd5.mono rm_same).put he1 ep5).off ed5
        · simp [tot] at hDt ⊢; lia
        · simp; lia
    · rintro σ H3 ⟨z3, z4, z5, z6, kvs, ps, rfl, s3, ed, pd, hps, htot, hpl⟩
      rw [List.take_of_length_le (by rw [Tr.wk_length]; lia), hfold, List.nil_append] at hps
      subst hps
      have sH3 : Same H H3 := sHB.trans s3
      have hkl := pd.length
      refine ⟨_, rfl, d, kvs, rfl, .inl ed, fun ob H4 e4 s4 acc ha => ?_⟩
      have pd4 : PD (rm d H3) kvs (en room t) := pd.rmd ed
      have sH4 : Same H H4 := fun x o hx => s4 _ _ (by rw [rm_ne (ne_of_none hx n1)]; exact sH3 _ _ hx)
      have hda : d ≠ acc := fun z => by rw [z, ha] at e4; cases e4
      refine comp_vals (kvs := kvs) (fun i ys σ H' => ∃ (z : Option V) (zs : List (Addr × List Int)), σ = [z] ∧ H' d = some (.frz ob (.dK kvs)) ∧ Same H4 H' ∧ H' acc = some (.lst ys) ∧ ys = zs.map (fun z => V.ref z.1) ∧ zs.length = i ∧ (∀ z ∈ zs, H' z.1 = some (.lst (z.2.map V.int)) ∧ H4 z.1 = none ∧ z.1 ≠ acc) ∧ (zs.map (·.1)).Nodup ∧ zs.map (·.2) = (((en room t).take i).map (·.2)).map so)
        ⟨none, [], rfl, by rw [upd_ne hda]; exact e4, same_new ha, upd_same, rfl, rfl, (fun z hz => by cases hz), List.nodup_nil, rfl⟩ (fun i ys σ H' hh => by obtain ⟨_, _, _, e', _⟩ := hh; exact e') ?_ ?_
      · rintro i ys k x σ H5 hkv hi ⟨z, zs, rfl, e5, s5, ea5, rfl, hzl, hzs, hzn, hzm⟩
        obtain ⟨e, b, he, rfl, eb⟩ := pd4.get hkv
        have eb5 : H5 b = some (.lst (e.2.map V.int)) := s5 _ _ (s4 _ _ eb)
        have hle := tot_mem (List.mem_of_getElem? he)
        refine ⟨_, rfl, b, e.2, rfl, SqL.of eb5, by lia, fun q6 H6 ns6 n6 s6 e6 pm6 so6 => ?_⟩
        have hns : ns6 = so e.2 := so_one pm6 so6
        subst hns
        have hqa : q6 ≠ acc := fun z => by rw [z, ea5] at n6; cases n6
        refine cpost (s6 _ _ ea5) (sizeBig (by rw [List.length_map]; lia)) hi ?_
        have hdq : d ≠ acc := hda
        refine ⟨_, zs ++ [(q6, so e.2)], rfl, by rw [upd_ne hda]; exact s6 _ _ e5, same_upd (s5.trans s6) ha, upd_same, by rw [List.map_append]; rfl, by simp [hzl], fun z hz => ?_, ?_, ?_⟩
        · rcases List.mem_append.mp hz with hz | hz
          · obtain ⟨h1, h2, h3⟩ := hzs z hz
            exact ⟨by rw [upd_ne h3]; exact s6 _ _ h1, h2, h3⟩
          · rw [List.mem_singleton] at hz
            subst hz
            exact ⟨by rw [upd_ne hqa]; exact e6, s5.free n6, hqa⟩
        · rw [List.map_append, List.nodup_append]
          refine ⟨hzn, by simp, fun a ha' b' hb' z => ?_⟩
          obtain ⟨y, hy, rfl⟩ := List.mem_map.mp ha'
          have : b' = q6 := by simpa using hb'
          subst this
          have h1 := (hzs y hy).1
          rw [z, n6] at h1; cases h1
        · rw [List.map_append, hzm, List.take_add_one, he, List.map_append, List.map_append]; rfl
      · rintro ys σ H5 ⟨z, zs, rfl, e5, s5, ea5, rfl, hzl, hzs, hzn, hzm⟩
        rw [hkl, List.take_length] at hzm
        refine ⟨acc, zs, rfl, SqL.of ea5, by lia, fun z hz => (hzs z hz).1, fun q6 H6 ys6 n6 s6 e6 _ pm6 lx6 => ?_⟩
        have sH5 : Same H H5 := sH4.trans s5
        refine q q6 H6 (ys6.map (·.1)) (ys6.map (·.2)) (sH5.free n6) (sH5.trans s6) (by rw [List.map_map]; exact e6) (pgs_of_pairs fun z hz => s6 _ _ (hzs z (pm6.mem_iff.mp hz)).1) (fun b hb => ?_) ((pm6.map _).nodup_iff.mpr hzn) (by rw [← hzm]; exact pm6.map _) (List.pairwise_map.mpr lx6)
        obtain ⟨z, hz, rfl⟩ := List.mem_map.mp hb
        obtain ⟨h1, h2, h3⟩ := hzs z (pm6.mem_iff.mp hz)
        exact ⟨sH4.free h2, fun zz => by rw [zz, n6] at h1; cases h1⟩
end
end K43C
namespace K43C
open PySem L2 L3 K43
noncomputable def spBy : Sp := fun vs H Q _ => ∃ (v : V) (t : Tr) (room : Int), vs = [v, .int room] ∧ Rep H v (Tr.d t) ∧ t.ht < 80 ∧ t.size ≤ 60 ∧ t.keys.Nodup ∧
  ∀ r H' bs L, H r = none → Same H H' → H' r = some (.lst (bs.map V.ref)) → Pgs H' bs L → (∀ b ∈ bs, H b = none ∧ b ≠ r) → bs.Nodup → L.Perm (((en room t).map (·.2)).map so) → LexS L → Q (.ref r) H'
theorem td_ok (room : Int) {t : Tr} (hnd : t.keys.Nodup) : TdOk room ((tP (t.pt room) t.wk).map (·.2)) t := by
  rw [tP_tS room (Tr.pt_nodup room hnd) t fun e he => he, tS_tdS]
  exact tdOk_of room _ t hnd fun c _ => Iff.rfl
section
variable {P : Program} {w : World} {K : PySem.W.Frag} {mg : Str → Option Value} {base : Heap}
theorem ok_by {f : Addr} (F : Fd K mg "by_marks" s_by_marks f) (T : Tx K mg) (C_tied_pairs : Cal P w K mg base CX0 82 "tied_pairs" spTied) (C_marks_by_key : Cal P w K mg base CX0 82 "marks_by_key" spByKey) (C_pages_tied : Cal P w K mg base CX0 82 "pages_tied" spPages) : Cal P w K mg base CX0 84 "by_marks" spBy := by
  refine F.cal sc_by_marks (fun _ _ _ _ _ _ us hl => L3.bind2 (fun _ _ => rfl) us hl) (fun vs H Q E h => ?_) (fun cdv A outer s H vs Q E hr h => ?_)
  · obtain ⟨v, t, room, rfl, _⟩ := h; rfl
  · obtain ⟨v, t, room, rfl, hv, ht, hz, hnd, q⟩ := h
    refine ⟨_, (bcons (sset (i := 2) sc_by_marks.nd rfl (by first | exact Or.inl rfl | exact Or.inr rfl) (qF C_tied_pairs (hr.mono (by lia)) pass0 rfl (qcons (qv 0) (qcons (qF C_marks_by_key (hr.mono (by lia)) pass0 rfl (qcons (qv 0) (qcons (qv 1) qnil))) qnil))))
      (bone (sret (qF C_pages_tied (hr.mono (by lia)) pass0 rfl (qcons (qv 0) (qcons (qcomp (sc := defScope s_by_marks) (NX := ["tree", "room", "pairs"]) ["key", "kid"] [none, none] rfl (iseq K (qv 2)) (fun _ _ _ => (gtup (n := 2) K rfl (gscons (gname (i := 0) (show (["key", "kid"] : List Str).Nodup by decide +kernel) rfl (by first | exact Or.inl rfl | exact Or.inr rfl)) (gscons (gname (i := 1) (show (["key", "kid"] : List Str).Nodup by decide +kernel) rfl (by first | exact Or.inl rfl | exact Or.inr rfl)) gsnil)))) (fun _ _ _ => csnil) (fun _ _ _ => (qv 1)) rfl rfl (by decide +kernel)) qnil)))))), ?_⟩
    refine ⟨_, rfl, _, rfl, _, rfl, v, t, room, rfl, hv, ht, by lia, hnd, fun d H1 kvs n1 s1 e1 D1 => ?_⟩
    refine ⟨v, t, _, d, kvs, rfl, hv.mono s1, ht, by lia, e1, D1, known_pt room hnd, fun r H2 ws n2 s2 e2 g2 => ?_⟩
    have hlen := tie_len (t.pt room) t
    have hwl := g2.length
    rw [List.length_map] at hwl
    refine ⟨_, rfl, _, rfl, r, rfl, .inl ⟨⟨_, SqL.of e2⟩, fun acc ha => ?_⟩⟩
    refine comp_list (xs := ws) (fun i ys σ H' => ∃ z1 z2, σ = [z1, z2] ∧ Same H2 H' ∧ H' acc = some (.lst ys) ∧ ys = (((tP (t.pt room) t.wk).take i).map (·.2)).map V.int) ⟨none, none, rfl, same_new ha, upd_same, rfl⟩ (fun i ys σ H' hh => by obtain ⟨_, _, _, s', _⟩ := hh; exact SqL.of (s' _ _ e2)) ?_ ?_
    · rintro i ys y σ G hy hi ⟨z1, z2, rfl, sG, eG, rfl⟩
      obtain ⟨p, hp, gp⟩ := reps_map g2 hy
      obtain ⟨b, rfl, eb⟩ := rep_pair (gp.mono sG)
      refine ⟨b, _, rfl, SqT.of eb, rfl, _, _, rfl, _, _, rfl, rfl, ?_⟩
      refine ⟨_, rfl, ?_⟩
      refine cpost eG (sizeBig (by simp; lia)) hi ?_
      exact ⟨_, _, rfl, same_upd sG ha, upd_same, by rw [List.take_add_one, hp, List.map_append, List.map_append]; rfl⟩
    · rintro ys σ H3 ⟨z1, z2, rfl, s3, e3, rfl⟩
      rw [List.take_of_length_le (by lia)] at e3
      have s13 := s1.trans (s2.trans s3)
      refine ⟨v, t, room, acc, _, rfl, hv.mono s13, ht, hz, hnd, e3, td_ok room hnd, fun r4 H4 bs L n4 s4 e4 p4 hb nd pm lx => ?_⟩
      exact q r4 H4 bs L (s13.free n4) (s13.trans s4) e4 p4 (fun b hb' => ⟨s13.free (hb b hb').1, (hb b hb').2⟩) nd pm lx
end
end K43C
namespace K43C
open PySem L2 L3 K43
noncomputable def mk0 (tb : Tab) (k : Int) : Int × Int := (look tb k).getD (0, 0)
noncomputable def rowOk (room : Int) (tb : Tab) (e : Int × List Int) : Bool := !HT.lexLt [(ruleM (e.2.filterMap (look tb)) room).1, (ruleM (e.2.filterMap (look tb)) room).2] [(mk0 tb e.1).1, (mk0 tb e.1).2]
noncomputable def holdsB (room : Int) (tb : Tab) (t : Tr) : Bool := t.wk.all (rowOk room tb)
noncomputable def topL (tb : Tab) : Tr → Int
  | .nil => 0
  | .node _ k _ => (mk0 tb k).1
noncomputable def shown (t : Tr) (room : Int) (tb : Tab) (number : Int) : Bool := decide (tb.map (·.1) = t.keys) && (holdsB room tb t && decide (number ≤ topL tb t))
theorem look_of {tb : Tab} {ks : List Int} (h : tb.map (·.1) = ks) (hn : ks.Nodup) {k : Int} (hk : k ∈ ks) : look tb k = some (mk0 tb k) := by
  rw [← h] at hk hn
  obtain ⟨e, he, rfl⟩ := List.mem_map.mp hk
  have := look_mem hn he
  unfold mk0
  rw [this]; rfl
theorem wk_keysT : ∀ (t : Tr) (e : Int × List Int), e ∈ t.wk → e.1 ∈ t.keys ∧ ∀ k ∈ e.2, k ∈ t.keys
  | .nil, e, h => by simp [Tr.wk] at h
  | .node l k r, e, h => by
    have key : ∀ t : Tr, ∀ x ∈ t.key?, x ∈ t.keys := fun t x hx => by
      cases t with
      | nil => simp [Tr.key?] at hx
      | node l x r => simp [Tr.key?] at hx; subst hx; simp [Tr.keys]
    simp only [Tr.wk, List.mem_append, List.mem_singleton] at h
    rw [Tr.keys]
    rcases h with (h | h) | h
    · obtain ⟨h1, h2⟩ := wk_keysT l e h
      exact ⟨by simp [h1], fun x hx => by simp [h2 x hx]⟩
    · obtain ⟨h1, h2⟩ := wk_keysT r e h
      exact ⟨by simp [h1], fun x hx => by simp [h2 x hx]⟩
    · subst h
      refine ⟨by simp, fun x hx => ?_⟩
      rcases List.mem_append.mp hx with hx | hx
      · simp [key l x hx]
      · simp [key r x hx]
noncomputable def spShown : Sp := fun vs H Q _ => ∃ (v : V) (t : Tr) (room : Int) (f : Addr) (ws : List V) (tb : Tab) (number : Int), vs = [v, .int room, .ref f, .int number] ∧ Rep H v (Tr.d t) ∧ t.ht < 80 ∧ t.size ≤ 1000 ∧ t.keys.Nodup ∧ H f = some (.lst ws) ∧ Reps H ws (tb.map rowD) ∧ tb.length ≤ 1000 ∧
  ∀ H', Same H H' → Q (.bl (shown t room tb number)) H'
theorem shown_ne {t : Tr} {room : Int} {tb : Tab} {number : Int} (h : ¬ tb.map (·.1) = t.keys) : shown t room tb number = false := by
  unfold shown; rw [decide_eq_false h, Bool.false_and]
theorem shown_eq {t : Tr} {room : Int} {tb : Tab} {number : Int} (h : tb.map (·.1) = t.keys) : shown t room tb number = (holdsB room tb t && decide (number ≤ topL tb t)) := by
  unfold shown; rw [decide_eq_true h, Bool.true_and]
section
variable {P : Program} {w : World} {K : PySem.W.Frag} {mg : Str → Option Value} {base : Heap}
theorem rep_row {H : Hp} {v : V} {e : Int × Int × Int} (h : Rep H v (rowD e)) : ∃ b, v = .ref b ∧ H b = some (.tup [.int e.1, .int e.2.1, .int e.2.2]) := by
  obtain ⟨a, vs, rfl, ea, rs⟩ := rep_tup h
  cases rs with
  | cons h1 rs =>
    cases rs with
    | cons h2 rs =>
      cases rs with
      | cons h3 rs =>
        cases rs
        cases rep_int h1
        cases rep_int h2
        cases rep_int h3
        exact ⟨a, rfl, ea⟩
theorem dget_dt {H : Hp} {d : Addr} {kvs : List (Key × V)} {tb : Tab} {k : Int} (ed : H d = some (.dK kvs)) (D0 : DT H kvs tb) (hk : look tb k = some (mk0 tb k)) : ∃ bm, (∀ H', Same H H' → DGet H' d (.int k) (some (.ref bm))) ∧ H bm = some (.tup [.int (mk0 tb k).1, .int (mk0 tb k).2]) := by
  obtain ⟨bm, hv1, hb1⟩ := D0.val hk
  refine ⟨bm, fun H' s' => ?_, hb1⟩
  have := DGet.k (k := (Sum.inl k : Key)) (s' _ _ ed)
  rw [hv1] at this
  exact this
theorem fm_some {tb : Tab} : ∀ (ks : List Int), (∀ k ∈ ks, look tb k = some (mk0 tb k)) → ks.filterMap (look tb) = ks.map (mk0 tb)
  | [], _ => rfl
  | k :: r, h => by rw [List.filterMap_cons, h k (by simp), fm_some r (fun x hx => h x (by simp [hx]))]; rfl
noncomputable def spTop : Sp := fun vs H Q _ => ∃ (v : V) (t : Tr) (tb : Tab) (d : Addr) (kvs : List (Key × V)), vs = [v, .ref d] ∧ Rep H v (Tr.d t) ∧ H d = some (.dK kvs) ∧ DT H kvs tb ∧ (∀ x ∈ t.key?, look tb x = some (mk0 tb x)) ∧ Q (.int (topL tb t)) H
theorem ok_top {f : Addr} (F : Fd K mg "top_level" s_top_level f) (T : Tx K mg) : Cal P w K mg base CX0 1 "top_level" spTop := by
  refine F.cal sc_top_level (fun _ _ _ _ _ _ us hl => L3.bind2 (fun _ _ => rfl) us hl) (fun vs H Q E h => ?_) (fun cdv A outer s H vs Q E hr h => ?_)
  · obtain ⟨v, t, tb, d, kvs, rfl, _⟩ := h; rfl
  · obtain ⟨v, t, tb, d, kvs, rfl, hv, ed, D0, hlk, q⟩ := h
    refine ⟨_, (bone (sret (qif (tcmp rIs (qv 0) qnon (nomark _)) qint (qix (xIx K) (qdget hr (qv 1) (qix (xIx K) (qv 0) qint (fun _ _ => rfl)) (fun _ _ => rfl)) qint (fun _ _ => rfl))))), ?_⟩
    cases t with
    | nil =>
      cases rep_nil hv
      refine ⟨_, rfl, rfl, _, rfl, ?_⟩
      refine iteT ?_
      exact q
    | node l x r =>
      obtain ⟨a, vl, vr, rfl, ea, _, _⟩ := rep_node hv
      obtain ⟨bx, hgx, hbx⟩ := dget_dt ed D0 (hlk x (by simp [Tr.key?]))
      refine ⟨_, rfl, rfl, _, rfl, ?_⟩
      refine iteF ?_
      refine ⟨_, rfl, _, rfl, a, _, 1, _, rfl, rfl, .inr (SqT.of ea), atI_nat (j := 1) rfl, d, .ref bx, rfl, hgx _ (Same.refl _), bx, _, 0, _, rfl, rfl, .inr (SqT.of hbx), atI_nat (j := 0) rfl, ?_⟩
      exact q
end
end K43C
namespace K43C
open PySem L2 L3 K43
theorem mark_all (room : Int) : ∀ t : Tr, t ≠ .nil → (t.size : Int) ≤ room → t.mark room = (1, (t.size : Int))
  | .nil, h, _ => absurd rfl h
  | .node l k r, _, hs => by
    have hl := fun h => mark_all room l h
    have hr := fun h => mark_all room r h
    rw [Tr.mark_node]
    have hsz : (Tr.node l k r).size = l.size + r.size + 1 := by rw [Tr.size]; lia
    rw [hsz] at hs ⊢
    cases l with
    | nil =>
      cases r with
      | nil => rfl
      | node rl rk rr =>
        have h0 : Tr.size .nil = 0 := rfl
        rw [h0] at hs ⊢
        show ruleM [(Tr.node rl rk rr).mark room] room = _
        rw [hr (by simp) (by lia), rule_one, if_pos (by simp only; lia)]
        simp only [Prod.mk.injEq, true_and]; lia
    | node ll lk lr =>
      cases r with
      | nil =>
        have h0 : Tr.size .nil = 0 := rfl
        rw [h0] at hs ⊢
        show ruleM [(Tr.node ll lk lr).mark room] room = _
        rw [hl (by simp) (by lia), rule_one, if_pos (by simp only; lia)]
        simp only [Prod.mk.injEq, true_and]; lia
      | node rl rk rr =>
        show ruleM [(Tr.node ll lk lr).mark room, (Tr.node rl rk rr).mark room] room = _
        rw [hl (by simp) (by lia), hr (by simp) (by lia)]
        rcases rule_two (1, ((Tr.node ll lk lr).size : Int)) (1, ((Tr.node rl rk rr).size : Int)) room with ⟨_, h⟩ | ⟨h1, _⟩ | ⟨h1, _⟩
        · rw [h, if_pos (by simp only; lia)]
          simp only [Prod.mk.injEq, true_and]; lia
        · simp only at h1; lia
        · simp only at h1; lia
theorem rule_swap (a b : Int × Int) (room : Int) : ruleM [a, b] room = ruleM [b, a] room := by
  rcases rule_two a b room with ⟨e, g⟩ | ⟨e, g⟩ | ⟨e, g⟩ <;> rcases rule_two b a room with ⟨e', g'⟩ | ⟨e', g'⟩ | ⟨e', g'⟩ <;> rw [g, g'] <;> first | lia | (rw [Int.add_comm b.2 a.2, e]) | rfl
noncomputable def LRm (t : Tr) (n R : Int) : Prop := 1 ≤ R ∧ (t.mark R).1 ≤ n ∧ ∀ r, 1 ≤ r → r < R → n < (t.mark r).1
end K43C
namespace K43C
open PySem L2 L3 K43
theorem top_is (room : Int) {t : Tr} (hnd : t.keys.Nodup) : topL (t.pt room) t = (t.mark room).1 ∧ ∀ x ∈ t.key?, look (t.pt room) x = some (mk0 (t.pt room) x) := by
  have h : ∀ x ∈ t.key?, look (t.pt room) x = some (t.mark room) := fun x hx => look_mem (Tr.pt_nodup room hnd) (Tr.key_mark room t x hx)
  have h2 : ∀ x ∈ t.key?, mk0 (t.pt room) x = t.mark room := fun x hx => by unfold mk0; rw [h x hx]; rfl
  refine ⟨?_, fun x hx => by rw [h x hx, h2 x hx]⟩
  cases t with
  | nil => rfl
  | node l k r => show (mk0 _ k).1 = _; rw [h2 k (by simp [Tr.key?])]
noncomputable def spWbm : Sp := fun vs H Q _ => ∃ (v : V) (t : Tr) (room : Int), vs = [v, .int room] ∧ Rep H v t.d ∧ t.ht < 80 ∧ t.size ≤ 60 ∧ t.keys.Nodup ∧ ∀ H', Same H H' → Q (.int (t.mark room).1) H'
noncomputable def spLeastR (cM : Addr) : Sp := fun vs H Q E => ∃ (v : V) (t : Tr) (n : Int), vs = [v, .int n] ∧ Rep H v t.d ∧ t.ht < 80 ∧ t.size ≤ 60 ∧ t.keys.Nodup ∧
  ((1 ≤ n ∧ ∀ (b : Addr) (H' : Hp) (R : Int) (lr : Addr) (y : V) (bs : List Addr) (L : List (List Int)), Same H H' → H' b = some (.tup [.int R, .ref lr, y]) → LRm t n R → R ≤ max 1 (t.size : Int) → H lr = none → H' lr = some (.lst (bs.map V.ref)) → Pgs H' bs L → (∀ c ∈ bs, H c = none ∧ c ≠ lr) → bs.Nodup → L.Perm (((en R t).map (·.2)).map so) → LexS L →
    ((R = 1 ∧ y = .non) ∨ (1 < R ∧ ∃ (tr : Addr) (ws : List V), y = .ref tr ∧ H tr = none ∧ H' tr = some (.lst ws) ∧ Reps H' ws ((t.io (R - 1)).map rowD))) → Q (.ref b) H') ∨ (n < 1 ∧ E (.ref cM) none H))
section
variable {P : Program} {w : World} {K : PySem.W.Frag} {mg : Str → Option Value} {base : Heap}
theorem ok_wbm {f : Addr} (F : Fd K mg "worst_by_marks" s_worst_by_marks f) (T : Tx K mg) (C_top_level : Cal P w K mg base CX0 1 "top_level" spTop) (C_marks_by_key : Cal P w K mg base CX0 82 "marks_by_key" spByKey) : Cal P w K mg base CX0 83 "worst_by_marks" spWbm := by
  refine F.cal sc_worst_by_marks (fun _ _ _ _ _ _ us hl => L3.bind2 (fun _ _ => rfl) us hl) (fun vs H Q E h => ?_) (fun cdv A outer s H vs Q E hr h => ?_)
  · obtain ⟨v, t, room, rfl, _⟩ := h; rfl
  · obtain ⟨v, t, room, rfl, hv, hht, hz, hnd, q⟩ := h
    refine ⟨_, (bone (sret (qF C_top_level (hr.mono (by lia)) pass0 rfl (qcons (qv 0) (qcons (qF C_marks_by_key (hr.mono (by lia)) pass0 rfl (qcons (qv 0) (qcons (qv 1) qnil))) qnil))))), ?_⟩
    obtain ⟨h1, h2⟩ := top_is room hnd
    refine ⟨_, rfl, _, rfl, _, rfl, v, t, room, rfl, hv, hht, by lia, hnd, fun r H1 kvs n1 s1 e1 g1 => ?_⟩
    refine ⟨v, t, t.pt room, r, kvs, rfl, hv.mono s1, e1, g1, h2, ?_⟩
    rw [h1]
    exact q H1 s1
theorem ok_leastR {f cM : Addr} (F0 : Fd K mg "least_room" s_least_room f) (T : Tx K mg) (R_NoRoom : ErrK K mg "NoRoom" cM) (C_worst_by_marks : Cal P w K mg base CX0 83 "worst_by_marks" spWbm) (C_marks : Cal P w K mg base CX0 84 "marks" spMarks) (C_by_marks : Cal P w K mg base CX0 84 "by_marks" spBy) : Cal P w K mg base (CXE P w) 85 "least_room" (spLeastR cM) := by
  have F := F0
  refine F.calE sc_least_room (fun _ _ _ _ _ _ us hl => L3.bind2 (fun _ _ => rfl) us hl) (fun vs H Q E h => ?_) (fun cdv A outer s H vs Q E hr h => ?_)
  · obtain ⟨v, t, n, rfl, _⟩ := h; rfl
  · obtain ⟨v, t, n, rfl, hv, hht, hz, hnd, h⟩ := h
    refine ⟨_, (bcons (sif (tcmp rLt (qv 1) qint (nomark _)) (bone (sraise R_NoRoom rfl (qcons qstr qnil))) bnil)
      (bcons (snox (sset (i := 2) sc_least_room.nd rfl (by first | exact Or.inl rfl | exact Or.inr rfl) qint))
      (bcons (snox (swhile PassesOwn.never (tcmp rGt (qF C_worst_by_marks (hr.mono (by lia)) pass0 rfl (qcons (qv 0) (qcons (qv 2) qnil))) (qv 1) (nomark _))
        (bone (saug (i := 2) sc_least_room.nd rfl (by first | exact Or.inl rfl | exact Or.inr rfl) qint iAdd))))
      (bcons (snox (sset (i := 3) sc_least_room.nd rfl (by first | exact Or.inl rfl | exact Or.inr rfl) (qif (tcmp (rEqq hr) (qv 2) qint (nomark _)) qnon (qF C_marks (hr.mono (by lia)) pass0 rfl (qcons (qv 0) (qcons (qop rSub (qv 2) qint) qnil))))))
      (bone (snox (sret (qtup (qcons (qv 2) (qcons (qF C_by_marks (hr.mono (by lia)) pass0 rfl (qcons (qv 0) (qcons (qv 2) qnil))) (qcons (qv 3) qnil))))))))))), ?_⟩
    refine ⟨_, rfl, _, _, rfl, rfl, _, rfl, ?_⟩
    rcases h with ⟨hn, q⟩ | ⟨hn, q⟩
    case inr =>
      rw [decide_eq_true hn]
      refine iteT ?_
      exact ⟨(show 1 ≤ sizeLine by decide), q⟩
    rw [decide_eq_false (show ¬ n < 1 by lia)]
    refine iteF ?_
    refine ⟨fun m σ H' => ∃ (R : Int), σ = [some v, some (.int n), some (.int R), none] ∧ Same H H' ∧ 1 ≤ R ∧ (∀ r, 1 ≤ r → r < R → n < (t.mark r).1) ∧ R ≤ max 1 (t.size : Int) ∧ m = (max 1 (t.size : Int) - R).toNat, ⟨_, 1, rfl, Same.refl _, Int.le_refl _, (fun r h1 h2 => by lia), by lia, rfl⟩, ?_⟩
    rintro m σ H1 ⟨R, rfl, s1, hR1, hR2, hR3, rfl⟩
    refine ⟨_, rfl, _, rfl, v, t, R, rfl, hv.mono s1, hht, hz, hnd, fun H2 s2 => ?_⟩
    refine ⟨_, rfl, _, _, rfl, rfl, _, rfl, ?_⟩
    have s02 := s1.trans s2
    by_cases hlt : n < (t.mark R).1
    case pos =>
      rw [decide_eq_true hlt]
      refine iteT ?_
      have hRs : R < max 1 (t.size : Int) := by
        by_cases c : R < max 1 (t.size : Int)
        · exact c
        · exfalso
          by_cases hnl : t = .nil
          · subst hnl
            have e : (Tr.mark R .nil).1 = 0 := rfl
            lia
          · rw [mark_all R t hnl (by lia)] at hlt
            have hlt : n < 1 := hlt
            lia
      refine ⟨fun σ' H' => ∃ m', m' < (max 1 (t.size : Int) - R).toNat ∧ ∃ (R : Int), σ' = [some v, some (.int n), some (.int R), none] ∧ Same H H' ∧ 1 ≤ R ∧ (∀ r, 1 ≤ r → r < R → n < (t.mark r).1) ∧ R ≤ max 1 (t.size : Int) ∧ m' = (max 1 (t.size : Int) - R).toNat, fun _ _ z => z, ?_⟩
      refine ⟨_, rfl, _, _, rfl, rfl, ?_⟩
      refine ⟨(max 1 (t.size : Int) - (R + 1)).toNat, by lia, R + 1, rfl, s02, by lia, fun r h1 h2 => ?_, by lia, rfl⟩
      by_cases c : r = R
      · rw [c]; exact hlt
      · exact hR2 r h1 (by lia)
    case neg =>
      rw [decide_eq_false hlt]
      refine iteF ?_
      have hL : LRm t n R := ⟨hR1, by lia, hR2⟩
      refine ⟨_, rfl, _, rfl, ?_⟩
      refine ite2 (fun _ => ?_) (fun _ => ?_)
      · refine ⟨_, rfl, _, rfl, _, rfl, v, t, R, rfl, hv.mono s02, hht, hz, hnd, fun r H3 bs L n3 s3 e3 p3 b3 d3 l3 x3 => ?_⟩
        have h1 : R = 1 := by
          rename_i h
          exact of_decide_eq_true h
        exact ⟨_, rfl, (show 3 ≤ sizeLine by decide), fun b H4 n4 s4 e4 _ => q b H4 R r .non bs L ((s02.trans s3).trans s4) e4 hL hR3 (s02.free n3) (s4 _ _ e3) (p3.mono s4) (fun c hc => ⟨s02.free (b3 c hc).1, (b3 c hc).2⟩) d3 l3 x3 (.inl ⟨h1, rfl⟩)⟩
      · refine ⟨_, rfl, _, rfl, _, _, rfl, rfl, v, t, R - 1, rfl, hv.mono s02, hht, by lia, hnd, fun r3 H3 ws n3 s3 e3 g3 => ?_⟩
        have s03 := s02.trans s3
        refine ⟨_, rfl, _, rfl, _, rfl, v, t, R, rfl, hv.mono s03, hht, hz, hnd, fun r H4 bs L n4 s4 e4 p4 b4 d4 l4 x4 => ?_⟩
        have h1 : ¬ R = 1 := by
          rename_i h
          exact fun z => h (decide_eq_true z)
        exact ⟨_, rfl, (show 3 ≤ sizeLine by decide), fun b H5 n5 s5 e5 _ => q b H5 R r (.ref r3) bs L ((s03.trans s4).trans s5) e5 hL hR3 (s03.free n4) (s5 _ _ e4) (p4.mono s5) (fun c hc => ⟨s03.free (b4 c hc).1, (b4 c hc).2⟩) d4 l4 x4 (.inr ⟨by lia, r3, ws, rfl, s02.free n3, s5 _ _ (s4 _ _ e3), g3.mono (s4.trans s5)⟩)⟩
end
end K43C
namespace K43C
open PySem L2 L3 K43
theorem lex_self (a : Int × Int) : HT.lexLt [a.1, a.2] [a.1, a.2] = false := by simp [HT.lexLt]
theorem pt_io (room : Int) : ∀ (t : Tr) (e : Int × Int × Int), e ∈ t.pt room → e ∈ t.io room
  | .nil, e, h => h
  | .node l k r, e, h => by
    simp only [Tr.io, Tr.pt, List.mem_append, List.mem_singleton] at h ⊢
    rcases h with (h | h) | h
    · exact .inl (.inl (pt_io room l e h))
    · exact .inr (pt_io room r e h)
    · exact .inl (.inr h)
theorem holds_io (room : Int) {tb : Tab} (hn : (tb.map (·.1)).Nodup) : ∀ t : Tr, (∀ e ∈ t.pt room, e ∈ tb) → holdsB room tb t = true
  | .nil, _ => rfl
  | .node l k r, h => by
    have hl : ∀ e ∈ l.pt room, e ∈ tb := fun e he => h e (by simp [Tr.pt, he])
    have hr : ∀ e ∈ r.pt room, e ∈ tb := fun e he => h e (by simp [Tr.pt, he])
    have h1 := holds_io room hn l hl
    have h2 := holds_io room hn r hr
    unfold holdsB at *
    rw [Tr.wk, List.all_append, List.all_append, h1, h2]
    have hm : look tb k = some ((Tr.node l k r).mark room) := look_mem hn (h _ (by simp [Tr.pt]))
    have : rowOk room tb (k, l.key? ++ r.key?) = true := by
      unfold rowOk
      dsimp only
      rw [List.filterMap_append, Tr.kids_look room l hn hl, Tr.kids_look room r hn hr, ← Tr.mark_node room l k r]
      unfold mk0
      rw [hm]
      show (!HT.lexLt _ _) = true
      rw [Option.getD_some, lex_self]; rfl
    simp [this]
theorem shown_io {room : Int} {t : Tr} (hnd : t.keys.Nodup) {number : Int} (h : number ≤ lev room t) (hne : t ≠ .nil) : shown t room (t.io room) number = true := by
  have hk := Tr.io_keys room t
  have hn : ((t.io room).map (·.1)).Nodup := by rw [hk]; exact hnd
  rw [shown_eq hk, holds_io room hn t (pt_io room t), Bool.true_and]
  refine decide_eq_true ?_
  cases t with
  | nil => exact absurd rfl hne
  | node l k r =>
    have hm : look ((Tr.node l k r).io room) k = some ((Tr.node l k r).mark room) := look_mem hn (pt_io room _ _ (by simp [Tr.pt]))
    show number ≤ (mk0 _ k).1
    unfold mk0
    rw [hm]
    exact h
section
variable {P : Program} {w : World} {K : PySem.W.Frag} {mg : Str → Option Value} {base : Heap}
theorem ok_shows {f : Addr} (F : Fd K mg "shows_worst" s_shows_worst f) (T : Tx K mg) (C_keys_of : Cal P w K mg base CX0 80 "keys_of" (spKof 80)) (C_with_kids : Cal P w K mg base CX0 80 "with_kids" (spWk 80)) (C_mark_from : Cal P w K mg base CX0 1 "mark_from" spFrom) (C_top_level : Cal P w K mg base CX0 1 "top_level" spTop) : Cal P w K mg base CX0 82 "shows_worst" spShown := by
  refine F.cal sc_shows_worst (fun _ _ _ _ _ _ us hl => L3.bind4 (fun _ _ _ _ => rfl) us hl) (fun vs H Q E h => ?_) (fun cdv A outer s H vs Q E hr h => ?_)
  · obtain ⟨v, t, room, fl, ws, tb, number, rfl, _⟩ := h; rfl
  · obtain ⟨v, t, room, fl, ws, tb, number, rfl, hv, ht, hz, hnd, ef, gf, hlt, q⟩ := h
    have hl := gf.length
    rw [List.length_map] at hl
    refine ⟨_, (bcons (sif (tcmp (rNeq hr) (qcomp (sc := defScope s_shows_worst) (NX := ["tree", "room", "table", "number", "told", "key", "level", "size", "kids"]) ["row"] [none] rfl (iseq K (qv 2)) (fun _ _ _ => (gname (i := 0) (show (["row"] : List Str).Nodup by decide +kernel) rfl (by first | exact Or.inl rfl | exact Or.inr rfl))) (fun _ _ _ => csnil) (fun _ _ _ => (qix (xIx K) (qv 0) qint (fun _ _ => rfl))) rfl rfl (by decide +kernel)) (qF C_keys_of (hr.mono (by lia)) pass0 rfl (qcons (qv 0) qnil)) (nomark _)) (bone (sret qbl)) bnil)
      (bcons (sset (i := 4) sc_shows_worst.nd rfl (by first | exact Or.inl rfl | exact Or.inr rfl) qdict)
      (bcons (sfor PassesOwn.never rfl (iseq K (qv 2)) (gtup (n := 3) K rfl (gscons (gname (i := 5) sc_shows_worst.nd rfl (by first | exact Or.inl rfl | exact Or.inr rfl)) (gscons (gname (i := 6) sc_shows_worst.nd rfl (by first | exact Or.inl rfl | exact Or.inr rfl)) (gscons (gname (i := 7) sc_shows_worst.nd rfl (by first | exact Or.inl rfl | exact Or.inr rfl)) gsnil))))
        (bone (sdput hr (qv 4) (qv 5) (qtup (qcons (qv 6) (qcons (qv 7) qnil))) rfl)))
      (bcons (sfor PassesOwn.never rfl (iseq K (qF C_with_kids (hr.mono (by lia)) pass0 rfl (qcons (qv 0) qnil))) (gtup (n := 2) K rfl (gscons (gname (i := 5) sc_shows_worst.nd rfl (by first | exact Or.inl rfl | exact Or.inr rfl)) (gscons (gname (i := 8) sc_shows_worst.nd rfl (by first | exact Or.inl rfl | exact Or.inr rfl)) gsnil)))
        (bone (sif (tcmp (rGtQ K hr) (qdget hr (qv 4) (qv 5) (fun _ _ => rfl)) (qF C_mark_from (hr.mono (by lia)) pass0 rfl (qcons (qcomp (sc := defScope s_shows_worst) (NX := ["tree", "room", "table", "number", "told", "key", "level", "size", "kids"]) ["kid", "told"] [none, some 4] rfl (iseq K (qv 8)) (fun _ _ _ => (gname (i := 0) (show (["kid", "told"] : List Str).Nodup by decide +kernel) rfl (by first | exact Or.inl rfl | exact Or.inr rfl))) (fun _ _ _ => csnil) (fun _ _ _ => (qdget hr (qv 1) (qv 0) (fun _ _ => rfl))) rfl rfl (by decide +kernel)) (qcons (qv 1) qnil))) (nomark _)) (bone (sret qbl)) bnil)))
      (bone (sret (qcmp (rLeQ K hr) (qv 3) (qF C_top_level (hr.mono (by lia)) pass0 rfl (qcons (qv 0) (qcons (qv 4) qnil))) (nomark _)))))))), ?_⟩
    refine ⟨_, rfl, fl, rfl, .inl ⟨⟨_, SqL.of ef⟩, fun acc ha => ?_⟩⟩
    refine comp_list (xs := ws) (fun i ys σ H' => ∃ z, σ = [z] ∧ Same H H' ∧ H' acc = some (.lst ys) ∧ ys = ((tb.take i).map (·.1)).map V.int) ⟨none, rfl, same_new ha, upd_same, rfl⟩ (fun i ys σ H' hh => by obtain ⟨_, _, s', _⟩ := hh; exact SqL.of (s' _ _ ef)) ?_ ?_
    · rintro i ys y σ H2 hy hi ⟨z, rfl, s2, e2, rfl⟩
      obtain ⟨m, hm, gm⟩ := reps_map gf hy
      obtain ⟨b, rfl, eb⟩ := rep_row gm
      refine ⟨_, rfl, b, _, 0, _, rfl, rfl, .inr (SqT.of (s2 _ _ eb)), atI_nat (j := 0) rfl, ?_⟩
      refine cpost e2 (sizeBig (by simp; lia)) hi ?_
      exact ⟨_, rfl, same_upd s2 ha, upd_same, by rw [List.take_add_one, hm, List.map_append, List.map_append]; rfl⟩
    · rintro ys σ H2 ⟨z, rfl, s2, e2, rfl⟩
      rw [List.take_of_length_le (by lia)] at e2
      refine ⟨_, rfl, v, t, rfl, hv.mono s2, ht, hz, fun r3 H3 n3 s3 e3 => ?_⟩
      refine ne_ints (s3 _ _ e2) e3 ?_
      refine ⟨_, rfl, ?_⟩
      have s03 := s2.trans s3
      by_cases hk : tb.map (·.1) = t.keys
      · rw [decide_eq_true hk]
        refine iteF ?_
        have hsh := shown_eq (room := room) (number := number) hk
        have hlk : ∀ k ∈ t.keys, look tb k = some (mk0 tb k) := fun k hk' => look_of hk hnd hk'
        have hndt : (tb.map (·.1)).Nodup := by rw [hk]; exact hnd
        refine fun d H4 n4 s4 e4 _ => ?_
        have s04 := s03.trans s4
        have gB : Reps (rm d H4) ws (tb.map rowD) := Reps.apart e4 (gf.mono s04) (pures_map pure_row _)
        have ef4 := s04 _ _ ef
        have hfd : fl ≠ d := fun z => by rw [z, e4] at ef4; cases ef4
        have eB : rm d H4 fl = some (.lst ws) := by rw [rm_ne hfd]; exact ef4
        have hdH : (rm d H4) d = none := rm_self
        have n0 : H d = none := s03.free n4
        have sHB : Same H (rm d H4) := fun b o hb => by rw [rm_ne (ne_of_none hb n0)]; exact s04 _ _ hb
        refine ⟨_, rfl, fl, rfl, .inl ⟨⟨_, SqL.of ef4⟩, for_listN (xs := ws) (fun i σ H' => ∃ z5 z6 z7 kvs, σ = [some v, some (.int room), some (.ref fl), some (.int number), some (.ref d), z5, z6, z7, none] ∧ Same (rm d H4) H' ∧ H' d = some (.dK kvs) ∧ DT H' kvs (tb.take i))
          ⟨none, none, none, [], rfl, rm_same, e4, .nil⟩ (fun i σ H' _ hh => by obtain ⟨_, _, _, _, _, s', _⟩ := hh; exact SqL.of (s' _ _ eB)) ?_ ?_⟩⟩
        · rintro N B R i y σ H5 hy hN _ _ ⟨z5, z6, z7, kvs, rfl, s5, ed, D5⟩
          obtain ⟨m, hm, gm⟩ := reps_map gB hy
          obtain ⟨b, rfl, eb⟩ := rep_row gm
          refine ⟨b, _, rfl, SqT.of (s5 _ _ eb), rfl, _, _, rfl, _, _, rfl, _, _, rfl, rfl, ?_⟩
          refine ⟨_, rfl, _, rfl, (show 2 ≤ sizeLine by decide), fun c6 H6 n6 s6 e6 _ => ?_⟩
          have dl := D5.length
          have hil := (List.getElem?_eq_some_iff.mp hm).1
          have hkl : kvs.length < 1000 := by rw [dl, List.length_take]; lia
          refine ⟨_, rfl, _, rfl, d, _, rfl, DPut.k (k := (Sum.inl m.1 : Key)) (s6 _ _ ed) (sizeBig (by lia)), ?_⟩
          refine hN _ _ ⟨_, _, _, _, rfl, same_upd (s5.trans s6) hdH, upd_same, ?_⟩
          have hnew : m.1 ∉ (tb.take i).map (·.1) := by
            have hsp : tb = tb.take i ++ m :: tb.drop (i + 1) := by
              obtain ⟨hlt', hee⟩ := List.getElem?_eq_some_iff.mp hm
              rw [← hee, List.getElem_cons_drop, List.take_append_drop]
            rw [hsp, List.map_append, List.map_cons] at hndt
            intro hmm
            exact (List.nodup_append.mp hndt).2.2 _ hmm _ List.mem_cons_self rfl
          rw [List.take_add_one, hm]
          exact ((D5.mono s6).put hnew e6).upd (s6 _ _ ed) (fun vs z => nomatch z)
        · rintro σ H5 ⟨z5, z6, z7, kvs, rfl, s5, ed, D5⟩
          rw [List.take_of_length_le (by lia)] at D5
          have s05 := sHB.trans s5
          refine ⟨_, rfl, v, t, rfl, hv.mono s05, ht, hz, fun r6 H6 ws6 n6 s6 e6 x6 g6 => ?_⟩
          have hw6 := g6.length
          rw [List.length_map] at hw6
          have hwl := Tr.wk_length t
          refine ⟨r6, rfl, .inl ⟨⟨_, SqL.of e6⟩, for_listN (xs := ws6) (fun i σ H' => ∃ z5 z8, σ = [some v, some (.int room), some (.ref fl), some (.int number), some (.ref d), z5, z6, z7, z8] ∧ Same H6 H' ∧ (t.wk.take i).all (rowOk room tb) = true)
            ⟨z5, none, rfl, Same.refl _, rfl⟩ (fun i σ H' _ hh => by obtain ⟨_, _, _, s', _⟩ := hh; exact SqL.of (s' _ _ e6)) ?_ ?_⟩⟩
          · rintro N B R i y σ H7 hy hN _ hR ⟨y5, y8, rfl, s7, hall⟩
            obtain ⟨e, he, ge⟩ := reps_map g6 hy
            obtain ⟨b, c, rfl, eb, ec⟩ := rep_kid ge
            have hem := List.mem_of_getElem? he
            obtain ⟨hk1, hk2⟩ := wk_keysT t e hem
            have hsm := Tr.wk_small t e hem
            have s57 := s6.trans s7
            refine ⟨b, _, rfl, SqT.of (s7 _ _ eb), rfl, _, _, rfl, _, _, rfl, rfl, ?_⟩
            obtain ⟨bx, hgx, hbx⟩ := dget_dt (s57 _ _ ed) (D5.mono s57) (hlk e.1 hk1)
            refine ⟨_, rfl, _, rfl, d, .ref bx, rfl, hgx _ (Same.refl _), ?_⟩
            have ec7 := s7 _ _ ec
            refine ⟨_, rfl, c, rfl, .inl ⟨⟨_, SqL.of ec7⟩, fun acc8 ha8 => ?_⟩⟩
            refine comp_list (xs := e.2.map V.int) (fun j ys σ H' => ∃ z, σ = [z, some (.ref d)] ∧ Same H7 H' ∧ H' acc8 = some (.lst ys) ∧ Reps H7 ys (((e.2.take j).map (mk0 tb)).map pairD)) ⟨none, rfl, same_new ha8, upd_same, .nil⟩ (fun j ys σ H' hh => by obtain ⟨_, _, s', _⟩ := hh; exact SqL.of (s' _ _ ec7)) ?_ ?_
            · rintro j ys y σ H8 hy hj ⟨z8, rfl, s8, e8, g8⟩
              rw [List.getElem?_map] at hy
              obtain ⟨k, hk', rfl⟩ := Option.map_eq_some_iff.mp hy
              obtain ⟨bm, hg, hb1⟩ := dget_dt (s57 _ _ ed) (D5.mono s57) (hlk k (hk2 k (List.mem_of_getElem? hk')))
              refine ⟨_, rfl, _, rfl, d, .ref bm, rfl, hg _ s8, ?_⟩
              have hl8 := g8.length
              rw [List.length_map, List.length_map, List.length_take] at hl8
              refine cpost e8 (sizeBig (by lia)) hj ?_
              refine ⟨_, rfl, same_upd s8 ha8, upd_same, ?_⟩
              rw [List.take_add_one, hk', List.map_append, List.map_append]
              exact g8.append (.cons (pair_rep hb1) .nil)
            · rintro ys σ H8 ⟨z8, rfl, s8, e8, g8⟩
              rw [List.length_map, List.take_length, ← fm_some e.2 (fun k hk' => hlk k (hk2 k hk'))] at g8
              have hfl := List.length_filterMap_le (look tb) e.2
              refine ⟨_, rfl, acc8, ys, e.2.filterMap (look tb), room, rfl, e8, g8.mono s8, by lia, fun bm H9 s9 e9 => ?_⟩
              have s79 := s8.trans s9
              refine ⟨[(mk0 tb e.1).1, (mk0 tb e.1).2], [(ruleM (e.2.filterMap (look tb)) room).1, (ruleM (e.2.filterMap (look tb)) room).2], SqT.of (s79 _ _ hbx), SqT.of e9, _, rfl, ?_⟩
              refine ite2 (fun h1 => ?_) (fun h1 => ?_)
              · have hro : rowOk room tb e = false := by unfold rowOk; rw [h1]; rfl
                have hhb : holdsB room tb t = false := by
                  unfold holdsB
                  rw [List.all_eq_false]
                  exact ⟨e, hem, by rw [hro]; simp⟩
                have := q H9 (s05.trans (s57.trans s79))
                rw [hsh, hhb, Bool.false_and] at this
                exact hR _ _ this
              · have hro : rowOk room tb e = true := by
                  unfold rowOk
                  rw [Bool.eq_false_iff.mpr h1]; rfl
                refine hN _ _ ⟨_, _, rfl, s7.trans s79, ?_⟩
                rw [List.take_add_one, he, List.all_append, hall]
                simp [hro]
          · rintro σ H7 ⟨y5, y8, rfl, s7, hall⟩
            rw [List.take_of_length_le (by lia)] at hall
            have hhb : holdsB room tb t = true := hall
            have s57 := s6.trans s7
            have s07 := s05.trans s57
            have hfin := q H7 s07
            rw [hsh, hhb, Bool.true_and] at hfin
            cases t with
            | nil =>
              refine ⟨_, rfl, _, rfl, _, rfl, v, .nil, tb, d, _, rfl, hv.mono s07, s57 _ _ ed, D5.mono s57, (fun x hx => by cases hx), ?_⟩
              exact ⟨_, _, rfl, rfl, hfin⟩
            | node l x r =>
              have hlx := hlk x (by simp [Tr.keys])
              refine ⟨_, rfl, _, rfl, _, rfl, v, .node l x r, tb, d, _, rfl, hv.mono s07, s57 _ _ ed, D5.mono s57, (fun y hy => by simp [Tr.key?] at hy; subst hy; exact hlx), ?_⟩
              exact ⟨_, _, rfl, rfl, hfin⟩
      · rw [decide_eq_false hk]
        refine iteT ?_
        have := q H3 s03
        rw [shown_ne hk] at this
        exact this
end
end K43C
namespace K43C
open PySem L2 L3
noncomputable abbrev Row := Int × Int × Int
noncomputable def hA (pt : Int → Bool) (a : Int) (u : Tr) : Int := if pt (top1 u) = true then top1 u else a
noncomputable def dA (pt : Int → Bool) (d : Int) (u : Tr) : Int := d + if pt (top1 u) = true then 1 else 0
noncomputable def rowsB (pt : Int → Bool) : Tr → Int → Int → List Row
  | .nil, _, _ => []
  | .node l k r, a, d => ((l.key?.map fun c => (c, hA pt a l, dA pt d l)) ++ rowsB pt l (hA pt a l) (dA pt d l)) ++ ((r.key?.map fun c => (c, hA pt a r, dA pt d r)) ++ rowsB pt r (hA pt a r) (dA pt d r))
noncomputable def rowsP (pt : Int → Bool) (u : Tr) (a d : Int) : List Row := (u.key?.map fun c => (c, a, d)) ++ rowsB pt u a d
theorem rowsB_node (pt : Int → Bool) (l : Tr) (k : Int) (r : Tr) (a d : Int) : rowsB pt (.node l k r) a d = rowsP pt l (hA pt a l) (dA pt d l) ++ rowsP pt r (hA pt a r) (dA pt d r) := rfl
noncomputable def Ch (pt : Int → Bool) : List Row → List (Int × Int) → List Row → Prop
  | _, [], [] => True
  | pre, (c, u) :: us, x :: rs => (∃ hu du, (u, hu, du) ∈ pre ∧ x = (c, (if pt c = true then c else hu), du + if pt c = true then 1 else 0)) ∧ Ch pt (pre ++ [x]) us rs
  | _, _, _ => False
theorem ch_app {pt : Int → Bool} : ∀ {us : List (Int × Int)} {rs pre : List Row} {us' : List (Int × Int)} {rs' : List Row}, Ch pt pre us rs → Ch pt (pre ++ rs) us' rs' → Ch pt pre (us ++ us') (rs ++ rs')
  | [], [], pre, us', rs', _, h => by rw [List.append_nil] at h; exact h
  | (c, u) :: us, x :: rs, pre, us', rs', ⟨h1, h2⟩, h => ⟨h1, ch_app h2 (by rw [List.append_assoc]; exact h)⟩
  | [], x :: rs, _, _, _, h, _ => h.elim
  | (c, u) :: us, [], _, _, _, h, _ => h.elim
theorem ch_tree (pt : Int → Bool) : ∀ (t : Tr) (a d : Int) (pre : List Row), t ≠ .nil → (top1 t, a, d) ∈ pre → Ch pt pre (upT t) (rowsB pt t a d)
  | .nil, _, _, _, h, _ => absurd rfl h
  | .node l k r, a, d, pre, _, hp => by
    have side : ∀ (u : Tr) (pre : List Row), (k, a, d) ∈ pre → (∀ a d pre, u ≠ .nil → (top1 u, a, d) ∈ pre → Ch pt pre (upT u) (rowsB pt u a d)) → Ch pt pre ((u.key?.map fun c => (c, k)) ++ upT u) (rowsP pt u (hA pt a u) (dA pt d u)) := fun u pre hp ih => by
      by_cases hn : u = .nil
      · subst hn; exact trivial
      · unfold rowsP
        rw [key_top hn]
        exact ⟨⟨a, d, hp, rfl⟩, ih _ _ _ hn (List.mem_append_right _ (by simp))⟩
    rw [upT, rowsB_node]
    exact ch_app (side l pre hp fun a d p h1 h2 => ch_tree pt l a d p h1 h2) (side r _ (List.mem_append_left _ hp) fun a d p h1 h2 => ch_tree pt r a d p h1 h2)
theorem ch_at {pt : Int → Bool} : ∀ {us : List (Int × Int)} {rs pre : List Row} {i : Nat} {c u : Int}, Ch pt pre us rs → us[i]? = some (c, u) → ∃ hu du, (u, hu, du) ∈ pre ++ rs.take i ∧ rs[i]? = some (c, (if pt c = true then c else hu), du + if pt c = true then 1 else 0)
  | [], _, _, i, _, _, _, h => by cases h
  | (c', u') :: us, [], _, _, _, _, h, _ => h.elim
  | (c', u') :: us, x :: rs, pre, 0, c, u, ⟨⟨hu, du, h1, h2⟩, h3⟩, h => by
    have e : (c', u') = (c, u) := by simpa using h
    cases e
    exact ⟨hu, du, by rw [List.take_zero, List.append_nil]; exact h1, by rw [h2]; rfl⟩
  | (c', u') :: us, x :: rs, pre, i + 1, c, u, ⟨_, h3⟩, h => by
    obtain ⟨hu, du, h1, h2⟩ := ch_at (i := i) h3 (by simpa using h)
    exact ⟨hu, du, by rw [List.take_succ_cons]; rw [List.append_assoc] at h1; exact h1, by simpa using h2⟩
theorem ch_len {pt : Int → Bool} : ∀ {us : List (Int × Int)} {rs pre : List Row}, Ch pt pre us rs → rs.length = us.length
  | [], [], _, _ => rfl
  | (c, u) :: us, x :: rs, _, ⟨_, h⟩ => by rw [List.length_cons, List.length_cons, ch_len h]
  | [], x :: rs, _, h => h.elim
  | (c, u) :: us, [], _, h => h.elim
theorem ch_keys {pt : Int → Bool} : ∀ {us : List (Int × Int)} {rs pre : List Row}, Ch pt pre us rs → rs.map (·.1) = us.map (·.1)
  | [], [], _, _ => rfl
  | (c, u) :: us, x :: rs, _, ⟨⟨_, _, _, e⟩, h⟩ => by rw [List.map_cons, List.map_cons, ch_keys h, e]
  | [], x :: rs, _, h => h.elim
  | (c, u) :: us, [], _, h => h.elim
theorem rowsP_node (pt : Int → Bool) (l : Tr) (k : Int) (r : Tr) (a d : Int) : rowsP pt (.node l k r) a d = [(k, a, d)] ++ (rowsP pt l (hA pt a l) (dA pt d l) ++ rowsP pt r (hA pt a r) (dA pt d r)) := rfl
theorem deep_le (pt : Int → Bool) : ∀ (t : Tr) (a d : Int) (x : Row), x ∈ rowsP pt t a d → x.2.2 ≤ d + wdS pt t - 1
  | .nil, _, _, x, h => by cases h
  | .node l k r, a, d, x, h => by
    rw [rowsP_node] at h
    rw [wdS]
    simp only [List.mem_append, List.mem_singleton] at h
    rcases h with h | h | h
    · rw [h]; dsimp only; lia
    · have := deep_le pt l _ _ x h
      rw [dA] at this
      generalize (if pt (top1 l) = true then (1 : Int) else 0) = i1 at *
      generalize (if pt (top1 r) = true then (1 : Int) else 0) = i2 at *
      lia
    · have := deep_le pt r _ _ x h
      rw [dA] at this
      generalize (if pt (top1 l) = true then (1 : Int) else 0) = i1 at *
      generalize (if pt (top1 r) = true then (1 : Int) else 0) = i2 at *
      lia
end K43C
namespace K43C
open PySem L2 L3 K43
noncomputable def kvI (S : List (Int × Int)) : List (Key × V) := S.map fun p => ((Sum.inl p.1 : Key), V.int p.2)
noncomputable def putI (S : List (Int × Int)) (h n : Int) : List (Int × Int) := if (S.any fun p => decide (p.1 = h)) = true then S.map (fun p => if p.1 = h then (p.1, n) else p) else S ++ [(h, n)]
theorem key_dec (a b : Int) : decide ((Sum.inl a : Key) = Sum.inl b) = decide (a = b) := by
  by_cases h : a = b
  · subst h; simp
  · rw [decide_eq_false h, decide_eq_false (fun z => h (by injection z))]
theorem putI_kv (S : List (Int × Int)) (h n : Int) : putK (kvI S) (Sum.inl h : Key) (.int n) = kvI (putI S h n) := by
  have ha : ((kvI S).any fun kv => decide (kv.1 = (Sum.inl h : Key))) = S.any fun p => decide (p.1 = h) := by
    unfold kvI
    rw [List.any_map]
    congr 1
    funext p
    exact key_dec p.1 h
  unfold putK putI
  rw [ha]
  by_cases c : (S.any fun p => decide (p.1 = h)) = true
  · rw [if_pos c, if_pos c]
    unfold kvI
    rw [List.map_map, List.map_map]
    congr 1
    funext p
    dsimp only [Function.comp]
    by_cases e : p.1 = h
    · rw [if_pos (by rw [e]), if_pos e]
    · rw [if_neg (fun z => e (by injection z)), if_neg e]
  · rw [if_neg c, if_neg c]
    unfold kvI
    rw [List.map_append]; rfl
theorem val_kv : ∀ {S : List (Int × Int)} {h n : Int}, (S.map (·.1)).Nodup → (h, n) ∈ S → valV (kvI S) (Sum.inl h : Key) = some (.int n)
  | [], _, _, _, hm => by cases hm
  | p :: S, h, n, hn, hm => by
    rw [List.map_cons, List.nodup_cons] at hn
    have e0 : kvI (p :: S) = ((Sum.inl p.1 : Key), V.int p.2) :: kvI S := rfl
    rw [e0]
    rcases List.mem_cons.mp hm with e | e
    · rw [← e]; exact valV_pos rfl
    · have : ¬ (Sum.inl p.1 : Key) = Sum.inl h := fun z => by
        injection z with z
        exact hn.1 (List.mem_map.mpr ⟨_, e, z.symm⟩)
      rw [valV_neg this]
      exact val_kv hn.2 e
theorem val_none : ∀ {S : List (Int × Int)} {h : Int}, h ∉ S.map (·.1) → valV (kvI S) (Sum.inl h : Key) = none
  | [], _, _ => rfl
  | p :: S, h, hn => by
    rw [List.map_cons, List.mem_cons, not_or] at hn
    have e0 : kvI (p :: S) = ((Sum.inl p.1 : Key), V.int p.2) :: kvI S := rfl
    rw [e0, valV_neg (fun z => hn.1 (by injection z with z; exact z.symm))]
    exact val_none hn.2
theorem kvI_len (S : List (Int × Int)) : (kvI S).length = S.length := by unfold kvI; rw [List.length_map]
theorem putI_new {A : List (Int × Int)} {x b : Int} (h : x ∉ A.map (·.1)) : putI A x b = A ++ [(x, b)] := by
  unfold putI
  rw [if_neg]
  intro z
  obtain ⟨p, hp, e⟩ := List.any_eq_true.mp z
  exact h (List.mem_map.mpr ⟨p, hp, of_decide_eq_true e⟩)
theorem putI_last {A : List (Int × Int)} {x a b : Int} (h : x ∉ A.map (·.1)) : putI (A ++ [(x, a)]) x b = A ++ [(x, b)] := by
  unfold putI
  rw [if_pos (by rw [List.any_append]; simp), List.map_append]
  congr 1
  · have e : (A.map fun p => if p.1 = x then (p.1, b) else p) = A.map id := List.map_congr_left fun p hp => if_neg fun z => h (List.mem_map.mpr ⟨p, hp, z⟩)
    rw [e, List.map_id]
  · simp
noncomputable def ptT (ts : List Int) : Int → Bool := fun c => !decide (c ∈ ts)
theorem rdget {H : Hp} {d : Addr} {kvs : List (Key × V)} {k : Int} {v : V} (e : Rd H d (.dK kvs)) (h : valV kvs (Sum.inl k : Key) = some v) : DGet H d (.int k) (some v) := by
  rw [← h]
  exact .inl ⟨kvs, Sum.inl k, e, rfl, rfl⟩
theorem dget {H : Hp} {d : Addr} {kvs : List (Key × V)} {k : Int} {v : V} (e : H d = some (.dK kvs)) (h : valV kvs (Sum.inl k : Key) = some v) : DGet H d (.int k) (some v) := by
  have := DGet.k (k := (Sum.inl k : Key)) e
  rw [h] at this
  exact this
noncomputable def RWs (ts : List Int) (t : Tr) : List Row := rowsP (ptT ts) t (top1 t) 1
theorem rws_cons {t : Tr} (hne : t ≠ .nil) (ts : List Int) : RWs ts t = (top1 t, top1 t, 1) :: rowsB (ptT ts) t (top1 t) 1 := by
  unfold RWs rowsP; rw [key_top hne]; rfl
theorem rws_ch {t : Tr} (hne : t ≠ .nil) (ts : List Int) : Ch (ptT ts) [(top1 t, top1 t, 1)] (upT t) (rowsB (ptT ts) t (top1 t) 1) := ch_tree _ t _ _ _ hne (by simp)
theorem rws_len {t : Tr} (hne : t ≠ .nil) (ts : List Int) : (RWs ts t).length = (upT t).length + 1 := by
  rw [rws_cons hne, List.length_cons, ch_len (rws_ch hne ts)]
theorem rws_keys {t : Tr} (hne : t ≠ .nil) (ts : List Int) : (RWs ts t).map (·.1) = top1 t :: (upT t).map (·.1) := by
  rw [rws_cons hne, List.map_cons, ch_keys (rws_ch hne ts)]
theorem rws_at {t : Tr} (hne : t ≠ .nil) (ts : List Int) {i : Nat} {c u : Int} (h : (upT t)[i]? = some (c, u)) : ∃ hu du, (u, hu, du) ∈ (RWs ts t).take (i + 1) ∧ (RWs ts t)[i + 1]? = some (c, (if ptT ts c = true then c else hu), du + if ptT ts c = true then 1 else 0) := by
  obtain ⟨hu, du, h1, h2⟩ := ch_at (rws_ch hne ts) h
  rw [rws_cons hne]
  exact ⟨hu, du, by rw [List.take_succ_cons]; exact h1, by rw [List.getElem?_cons_succ]; exact h2⟩
theorem upT_perm : ∀ {t : Tr}, t ≠ .nil → (top1 t :: (upT t).map (·.1)).Perm t.keys := by
  have all : ∀ t : Tr, (t.key? ++ (upT t).map (·.1)).Perm t.keys := fun t => by
    induction t with
    | nil => exact List.Perm.refl _
    | node l k r il ir =>
      have e : ∀ u : Tr, u.key?.map ((fun x : Int × Int => x.1) ∘ fun c => (c, k)) = u.key? := fun u => by
        rw [show ((fun x : Int × Int => x.1) ∘ fun c => (c, k)) = id from rfl, List.map_id]
      rw [upT, List.map_append, List.map_append, List.map_append, List.map_map, List.map_map, e, e, Tr.keys]
      have h1 : ([k] ++ ((l.key? ++ (upT l).map (·.1)) ++ (r.key? ++ (upT r).map (·.1)))).Perm ([k] ++ (l.keys ++ r.keys)) := List.Perm.append_left _ (il.append ir)
      refine h1.trans ?_
      rw [← List.append_assoc]
      exact (List.perm_append_comm (l₁ := [k]) (l₂ := l.keys)).append_right _
  intro t h
  have := all t
  rw [key_top h] at this
  exact this
theorem ups_is : ∀ (t : Tr) (u : Option Int), upsL t u = (t.key?.map fun c => ((Sum.inl c : Key), vO u)) ++ (upT t).map fun e => ((Sum.inl e.1 : Key), V.int e.2)
  | .nil, _ => rfl
  | .node l k r, u => by
    have e : ∀ v : Tr, (v.key?.map fun c => (c, k)).map (fun e : Int × Int => ((Sum.inl e.1 : Key), V.int e.2)) = v.key?.map fun c => ((Sum.inl c : Key), vO (some k)) := fun v => by
      rw [List.map_map]; rfl
    rw [upsL, ups_is l, ups_is r, upT, List.map_append, List.map_append, List.map_append, e, e]
    simp [Tr.key?]
end K43C
namespace K43C
open PySem L2 L3 K43
noncomputable def KeepT (H H' : Hp) : Prop := ∀ x vs, H x = some (.tup vs) → H' x = some (.tup vs)
theorem KeepT.trans {H H1 H2 : Hp} (a : KeepT H H1) (b : KeepT H1 H2) : KeepT H H2 := fun x vs e => b x vs (a x vs e)
theorem KeepT.same {H H' : Hp} (s : Same H H') : KeepT H H' := fun x vs e => s _ _ e
theorem KeepT.upd {H : Hp} {l : Addr} {o : HO} (h : ∀ vs, H l ≠ some (.tup vs)) : KeepT H (L2.upd H l o) := fun x vs q => by
  rw [upd_ne (fun z => h vs (by rw [← z]; exact q))]; exact q
theorem tree_keep {H H' : Hp} (k : KeepT H H') : ∀ {t : Tr} {v : V}, Rep H v t.d → Rep H' v t.d
  | .nil, _, h => by cases rep_nil h; exact .non
  | .node l x r, _, h => by
    obtain ⟨a, vl, vr, rfl, ea, hl, hr⟩ := rep_node h
    exact .tup (k _ _ ea) (.cons (tree_keep k hl) (.cons (.int _) (.cons (tree_keep k hr) .nil)))
theorem KeepT.rm {H H' : Hp} {p : Addr} (hp : ∀ vs, H p ≠ some (.tup vs)) (s : Same (L3.rm p H) H') : KeepT H H' := fun x vs e => rm_look s e (fun z => hp vs (by rw [← z]; exact e))
theorem not_tupD {H : Hp} {p : Addr} {kvs : List (Key × V)} (h : H p = some (.dK kvs)) : ∀ vs, H p ≠ some (.tup vs) := fun vs z => by rw [h] at z; cases z
theorem upsL_len (t : Tr) (u : Option Int) : (upsL t u).length = t.size := by
  have := (upsL_perm t u).length_eq
  rw [List.length_map, List.length_map, Tr.keys_length] at this
  exact this
noncomputable def spLUps (n : Nat) : Sp := fun vs H Q _ => ∃ (v : V) (t : Tr) (u : Option Int) (d : Addr) (kvs : List (Key × V)), vs = [v, vO u, .ref d] ∧ Rep H v t.d ∧ t.ht < n ∧ H d = some (.dK kvs) ∧ kvs.length + t.size ≤ 100 ∧ ((kvs ++ upsL t u).map (·.1)).Nodup ∧
  ∀ H', Same (rm d H) H' → H' d = some (.dK (kvs ++ upsL t u)) → Q .non H'
theorem pen3_tup {H : Hp} {p : Addr} (h : Pen3 H p) : ∀ vs, H p ≠ some (.tup vs) := fun vs z => by
  obtain ⟨m, n, d, e⟩ := h
  rw [e] at z; cases z
section
variable {P : Program} {w : World} {K : PySem.W.Frag} {mg : Str → Option Value} {base : Heap}
theorem ok_lups {f : Addr} (F : Fd K mg "_law_ups" s_law_ups f) (T : Tx K mg) : ∀ n, Cal P w K mg base CX0 n "_law_ups" (spLUps n) := by
  intro n
  induction n with
  | zero => exact (F.none (ps := ["_law_tree_here", "_law_up", "_law_ups_here"]) (fun _ _ _ _ _ _ us hl => L3.bind3 (fun _ _ _ => rfl) us hl) fun vs H Q E hh => by obtain ⟨v, t, _, _, _, _, _, h2, _⟩ := hh; lia)
  | succ n C_law_ups =>
    refine F.cal sc_law_ups (fun _ _ _ _ _ _ us hl => L3.bind3 (fun _ _ _ => rfl) us hl) (fun vs H Q E h => ?_) (fun cdv A outer s H vs Q E hr h => ?_)
    · obtain ⟨v, t, u, d, kvs, rfl, _⟩ := h; rfl
    · obtain ⟨v, t, u, d, kvs, rfl, hv, ht, ed, hl, hn, q⟩ := h
      refine ⟨_, (bone (sif (tcmp rIsNot (qv 0) qnon (nomark _)) (bcons (sdput hr (qv 2) (qix (xIx K) (qv 0) qint (fun _ _ => rfl)) (qv 1) rfl)
        (bcons (sexpr (qF C_law_ups (hr.mono (by lia)) pass0 rfl (qcons (qix (xIx K) (qv 0) qint (fun _ _ => rfl)) (qcons (qix (xIx K) (qv 0) qint (fun _ _ => rfl)) (qcons (qv 2) qnil)))))
        (bone (sexpr (qF C_law_ups (hr.mono (by lia)) pass0 rfl (qcons (qix (xIx K) (qv 0) qint (fun _ _ => rfl)) (qcons (qix (xIx K) (qv 0) qint (fun _ _ => rfl)) (qcons (qv 2) qnil)))))))) bnil)), ?_⟩
      cases t with
      | nil =>
        cases rep_nil hv
        refine ⟨_, rfl, rfl, _, rfl, ?_⟩
        refine iteF ?_
        exact q H rm_same (by rw [ed]; simp [upsL])
      | node l k r =>
        obtain ⟨a, vl, vr, rfl, ea, hlv, hrv⟩ := rep_node hv
        simp only [Tr.ht] at ht
        simp only [Tr.size] at hl
        rw [upsL] at hn
        have hnew : valV kvs (Sum.inl k : Key) = none := valV_none' (fun hm => by
          rw [List.map_append, List.nodup_append] at hn
          exact hn.2.2 _ hm _ (by rw [List.map_cons]; exact .head _) rfl)
        refine ⟨_, rfl, rfl, _, rfl, ?_⟩
        refine iteT ?_
        refine ⟨_, rfl, _, rfl, _, rfl, a, _, 1, _, rfl, rfl, .inr (SqT.of ea), atI_nat (j := 1) rfl, d, _, rfl, DPut.k (k := (Sum.inl k : Key)) ed (sizeBig (by lia)), ?_⟩
        rw [putK_new _ hnew]
        have K1 : KeepT H (upd H d (.dK (kvs ++ [((Sum.inl k : Key), vO u)]))) := KeepT.upd (not_tupD ed)
        have e1 : upd H d (.dK (kvs ++ [((Sum.inl k : Key), vO u)])) d = some (.dK (kvs ++ [((Sum.inl k : Key), vO u)])) := upd_same
        have s1 : Same (rm d H) (upd H d (.dK (kvs ++ [((Sum.inl k : Key), vO u)]))) := fun x o hx => by
          have hxd : x ≠ d := fun z => by rw [z, rm_self] at hx; cases hx
          rw [rm_ne hxd] at hx
          rw [upd_ne hxd]; exact hx
        generalize upd H d (.dK (kvs ++ [((Sum.inl k : Key), vO u)])) = H1 at *
        have hn2 : (((kvs ++ [((Sum.inl k : Key), vO u)]) ++ (upsL l (some k) ++ upsL r (some k))).map (·.1)).Nodup := by simpa using hn
        rw [← List.append_assoc, List.map_append] at hn2
        refine ⟨_, rfl, a, _, 0, _, rfl, rfl, .inr (SqT.of (K1 _ _ ea)), atI_nat (j := 0) rfl, _, rfl, a, _, 1, _, rfl, rfl, .inr (SqT.of (K1 _ _ ea)), atI_nat (j := 1) rfl, _, rfl, vl, l, some k, d, _, rfl, tree_keep K1 hlv, by lia, e1, by simp; lia, (List.nodup_append.mp hn2).1, fun H2 s2 e2 => ?_⟩
        have K2 : KeepT H1 H2 := KeepT.rm (not_tupD e1) s2
        have K02 := K1.trans K2
        have hll := upsL_len l (some k)
        rw [← List.map_append] at hn2
        refine ⟨_, rfl, a, _, 2, _, rfl, rfl, .inr (SqT.of (K02 _ _ ea)), atI_nat (j := 2) rfl, _, rfl, a, _, 1, _, rfl, rfl, .inr (SqT.of (K02 _ _ ea)), atI_nat (j := 1) rfl, _, rfl, vr, r, some k, d, _, rfl, tree_keep K02 hrv, by lia, e2, by simp; lia, hn2, fun H3 s3 e3 => ?_⟩
        refine q H3 (rm_trans (rm_trans s1 s2) s3) ?_
        rw [e3, upsL]; simp
end
end K43C
namespace K43C
open PySem L2 L3 K43
theorem nd_inj {α : Type} {l : List α} (hn : l.Nodup) {i j : Nat} (hi : i < l.length) (hj : j < l.length) (h : l[i] = l[j]) : i = j := by
  have hp := List.pairwise_iff_getElem.mp hn
  rcases Nat.lt_trichotomy i j with z | z | z
  · exact absurd h (hp i j hi hj z)
  · exact z
  · exact absurd h.symm (hp j i hj hi z)
noncomputable def kd (t : Tr) (k : Int) : List Int := ((upT t).filter fun e => decide (e.2 = k)).map (·.1)
theorem upT_up : ∀ (t : Tr) (e : Int × Int), e ∈ upT t → e.2 ∈ t.keys ∧ e.1 ∈ t.keys
  | .nil, e, h => by simp [upT] at h
  | .node l k r, e, h => by
    have key : ∀ u : Tr, ∀ x ∈ u.key?, x ∈ u.keys := key_keys
    simp only [upT, List.mem_append, List.mem_map] at h
    rw [Tr.keys]
    rcases h with (⟨c, hc, rfl⟩ | h) | (⟨c, hc, rfl⟩ | h)
    · exact ⟨by simp, by simp [key l c hc]⟩
    · have := upT_up l e h; exact ⟨by simp [this.1], by simp [this.2]⟩
    · exact ⟨by simp, by simp [key r c hc]⟩
    · have := upT_up r e h; exact ⟨by simp [this.1], by simp [this.2]⟩
theorem kd_out {t : Tr} {k : Int} (h : k ∉ t.keys) : (upT t).filter (fun e => decide (e.2 = k)) = [] :=
  List.filter_eq_nil_iff.mpr fun e he z => h (by rw [← of_decide_eq_true z]; exact (upT_up t e he).1)
theorem kd_key (u : Tr) (k : Int) : (u.key?.map fun c => (c, k)).filter (fun e : Int × Int => decide (e.2 = k)) = u.key?.map fun c => (c, k) := by
  cases u <;> simp [Tr.key?]
theorem kd_key' (u : Tr) {k x : Int} (h : k ≠ x) : (u.key?.map fun c => (c, k)).filter (fun e : Int × Int => decide (e.2 = x)) = [] := by
  cases u <;> simp [Tr.key?, h]
theorem kd_map (u : Tr) (k : Int) : (u.key?.map fun c => (c, k)).map (fun e : Int × Int => e.1) = u.key? := by
  cases u <;> simp [Tr.key?]
theorem kd_wk : ∀ (t : Tr), t.keys.Nodup → ∀ e ∈ t.wk, kd t e.1 = e.2
  | .nil, _, e, h => by simp [Tr.wk] at h
  | .node l k r, hn, e, h => by
    obtain ⟨n1, n2, n3, n4, n5⟩ := nd_node hn
    simp only [Tr.wk, List.mem_append, List.mem_singleton] at h
    unfold kd
    rw [upT, List.filter_append, List.filter_append, List.filter_append]
    rcases h with (h | h) | h
    · have hk := (wk_keysT l e h).1
      have hne : k ≠ e.1 := fun z => n3 (by rw [z]; exact hk)
      rw [kd_key' l hne, kd_key' r hne, kd_out (n5 _ hk)]
      have := kd_wk l n1 e h
      unfold kd at this
      simpa using this
    · have hk := (wk_keysT r e h).1
      have hne : k ≠ e.1 := fun z => n4 (by rw [z]; exact hk)
      rw [kd_key' l hne, kd_key' r hne, kd_out (fun z => n5 _ z hk)]
      have := kd_wk r n2 e h
      unfold kd at this
      simpa using this
    · subst h
      rw [kd_key, kd_key, kd_out n3, kd_out n4, List.append_nil, List.append_nil, List.map_append, kd_map, kd_map]
theorem wk_has : ∀ (t : Tr) (k : Int), k ∈ t.keys → ∃ e ∈ t.wk, e.1 = k
  | .nil, k, h => by simp [Tr.keys] at h
  | .node l x r, k, h => by
    rw [Tr.keys] at h
    simp only [List.mem_append, List.mem_singleton] at h
    rcases h with (h | h) | h
    · obtain ⟨e, he, z⟩ := wk_has l k h; exact ⟨e, by simp [Tr.wk, he], z⟩
    · exact ⟨(x, l.key? ++ r.key?), by simp [Tr.wk], h.symm⟩
    · obtain ⟨e, he, z⟩ := wk_has r k h; exact ⟨e, by simp [Tr.wk, he], z⟩
theorem mk_kid (room : Int) {tb : Tab} (hn : (tb.map (·.1)).Nodup) (t : Tr) (h : ∀ e ∈ t.pt room, e ∈ tb) : t.key?.map (mk0 tb) = t.mk1 room := by
  cases t with
  | nil => rfl
  | node l k r =>
    have hm : look tb k = some ((Tr.node l k r).mark room) := look_mem hn (h _ (by simp [Tr.pt]))
    show [mk0 tb k] = [_]
    unfold mk0
    rw [hm]; rfl
theorem rule_wk (room : Int) {tb : Tab} (hn : (tb.map (·.1)).Nodup) : ∀ t : Tr, (∀ e ∈ t.pt room, e ∈ tb) → ∀ e ∈ t.wk, ruleM (e.2.map (mk0 tb)) room = mk0 tb e.1
  | .nil, _, e, h => by simp [Tr.wk] at h
  | .node l k r, h, e, he => by
    have hl : ∀ e ∈ l.pt room, e ∈ tb := fun e he => h e (by simp [Tr.pt, he])
    have hr : ∀ e ∈ r.pt room, e ∈ tb := fun e he => h e (by simp [Tr.pt, he])
    simp only [Tr.wk, List.mem_append, List.mem_singleton] at he
    rcases he with (he | he) | he
    · exact rule_wk room hn l hl e he
    · exact rule_wk room hn r hr e he
    · subst he
      have hm : look tb k = some ((Tr.node l k r).mark room) := look_mem hn (h _ (by simp [Tr.pt]))
      dsimp only
      rw [List.map_append, mk_kid room hn l hl, mk_kid room hn r hr, ← Tr.mark_node room l k r]
      unfold mk0
      rw [hm]; rfl
noncomputable def mf (room : Int) (t : Tr) (k : Int) : Int × Int := mk0 (t.io room) k
theorem io_nd {room : Int} {t : Tr} (hn : t.keys.Nodup) : ((t.io room).map (·.1)).Nodup := by rw [Tr.io_keys]; exact hn
theorem mf_rule {room : Int} {t : Tr} (hn : t.keys.Nodup) {k : Int} (hk : k ∈ t.keys) : ruleM ((kd t k).map (mf room t)) room = mf room t k ∧ (kd t k).length ≤ 2 := by
  obtain ⟨e, he, rfl⟩ := wk_has t k hk
  rw [kd_wk t hn e he]
  exact ⟨rule_wk room (io_nd hn) t (pt_io room t) e he, Tr.wk_small t e he⟩
theorem mf_top {room : Int} {t : Tr} (hn : t.keys.Nodup) (hne : t ≠ .nil) : mf room t (top1 t) = t.mark room := by
  cases t with
  | nil => exact absurd rfl hne
  | node l k r =>
    have hm : look ((Tr.node l k r).io room) k = some ((Tr.node l k r).mark room) := look_mem (io_nd hn) (pt_io room _ _ (by simp [Tr.pt]))
    show mk0 _ k = _
    unfold mk0
    rw [hm]; rfl
theorem rule_rev {ks : List (Int × Int)} (h : ks.length ≤ 2) (room : Int) : ruleM ks.reverse room = ruleM ks room := by
  cases ks with
  | nil => rfl
  | cons a ks =>
    cases ks with
    | nil => rfl
    | cons b ks =>
      cases ks with
      | nil => exact rule_swap b a room
      | cons _ _ => exact absurd h (by simp)
noncomputable def pre (t : Tr) : List Int := t.key? ++ (upT t).map (·.1)
theorem pre_ups (t : Tr) : (upsL t none).map (·.1) = (pre t).map Sum.inl := by
  rw [ups_is, pre, List.map_append, List.map_append]
  simp [Function.comp_def]
theorem pre_ne {t : Tr} (h : t ≠ .nil) : pre t = top1 t :: (upT t).map (·.1) := by rw [pre, key_top h]; rfl
theorem pre_perm (t : Tr) : (pre t).Perm t.keys := by
  by_cases h : t = .nil
  · subst h; exact List.Perm.refl _
  · rw [pre_ne h]; exact upT_perm h
theorem pre_nd {t : Tr} (h : t.keys.Nodup) : (pre t).Nodup := (pre_perm t).nodup_iff.mpr h
theorem pre_mem {t : Tr} {k : Int} : k ∈ pre t ↔ k ∈ t.keys := (pre_perm t).mem_iff
theorem pre_len (t : Tr) : (pre t).length = t.size := by rw [(pre_perm t).length_eq, Tr.keys_length]
theorem up_ahead {t : Tr} (hne : t ≠ .nil) {i : Nat} {c u : Int} (h : (upT t)[i]? = some (c, u)) : u ∈ (pre t).take (i + 1) := by
  obtain ⟨hu, du, h1, _⟩ := rws_at hne [] h
  have := List.mem_map_of_mem (f := (·.1)) h1
  rw [List.map_take, rws_keys hne] at this
  rw [pre_ne hne]; exact this
theorem kd_behind {t : Tr} (hne : t ≠ .nil) (hn : t.keys.Nodup) {p : Nat} {c : Int} (h : (pre t)[p]? = some c) : ((upT t).drop p).filter (fun e => decide (e.2 = c)) = (upT t).filter fun e => decide (e.2 = c) := by
  conv => rhs; rw [← List.take_append_drop p (upT t), List.filter_append]
  have : ((upT t).take p).filter (fun e => decide (e.2 = c)) = [] := by
    refine List.filter_eq_nil_iff.mpr fun e he z => ?_
    have z := of_decide_eq_true z
    obtain ⟨q, hq⟩ := List.getElem?_of_mem he
    obtain ⟨hql, hqe⟩ := List.getElem?_eq_some_iff.mp hq
    rw [List.length_take] at hql
    rw [List.getElem?_take_of_lt (by lia)] at hq
    have h1 := up_ahead hne (c := e.1) (u := e.2) hq
    rw [z] at h1
    obtain ⟨m, hm⟩ := List.getElem?_of_mem h1
    obtain ⟨hml, _⟩ := List.getElem?_eq_some_iff.mp hm
    rw [List.length_take] at hml
    rw [List.getElem?_take_of_lt (by lia)] at hm
    have hnd := pre_nd hn
    have : m = p := by
      obtain ⟨a1, a2⟩ := List.getElem?_eq_some_iff.mp hm
      obtain ⟨b1, b2⟩ := List.getElem?_eq_some_iff.mp h
      exact nd_inj hnd a1 b1 (a2.trans b2.symm)
    lia
  rw [this, List.nil_append]
structure KH (B H : Hp) (d : Addr) (ks : List Int) (A : Int → Addr) (M : Int → List (Int × Int)) : Prop where
  s : Same B H
  ed : H d = some (.dK (ks.map fun k => ((Sum.inl k : Key), V.ref (A k))))
  bd : B d = none
  ls : ∀ k ∈ ks, B (A k) = none ∧ ∃ ws : List V, H (A k) = some (.lst ws) ∧ Reps (rm (A k) H) ws ((M k).map pairD)
  inj : ∀ k ∈ ks, ∀ k' ∈ ks, A k = A k' → k = k'
theorem pairs_mono {H G : Hp} (hk : ∀ b m1 m2, H b = some (.tup [V.int m1, V.int m2]) → G b = some (.tup [V.int m1, V.int m2])) : ∀ {ps : List (Int × Int)} {vs : List V}, Reps H vs (ps.map pairD) → Reps G vs (ps.map pairD)
  | [], _, h => by cases h; exact .nil
  | p :: ps, _, h => by
    cases h with
    | cons h1 h2 =>
      obtain ⟨b, rfl, eb⟩ := rep_pair h1
      exact .cons (pair_rep (hk _ _ _ eb)) (pairs_mono hk h2)
theorem KH.mono {B H H' : Hp} {d : Addr} {ks : List Int} {A : Int → Addr} {M : Int → List (Int × Int)} (h : KH B H d ks A M) (s : Same H H') : KH B H' d ks A M :=
  ⟨h.s.trans s, s _ _ h.ed, h.bd, fun k hk => by
    obtain ⟨b, ws, e, g⟩ := h.ls k hk
    exact ⟨b, ws, s _ _ e, g.mono (rm_of' s)⟩, h.inj⟩
theorem KH.val {B H : Hp} {d : Addr} {ks : List Int} {A : Int → Addr} {M : Int → List (Int × Int)} (h : KH B H d ks A M) {k : Int} (hk : k ∈ ks) : DGet H d (.int k) (some (.ref (A k))) := by
  refine dget h.ed ?_
  have : ∀ l : List Int, k ∈ l → valV (l.map fun k => ((Sum.inl k : Key), V.ref (A k))) (Sum.inl k : Key) = some (.ref (A k)) := fun l => by
    induction l with
    | nil => intro h; cases h
    | cons x l ih =>
      intro hm
      by_cases e : x = k
      · subst e; simp [valV]
      · have : k ∈ l := by rcases List.mem_cons.mp hm with z | z; exact absurd z.symm e; exact z
        have ih := ih this
        unfold valV at ih ⊢
        rw [List.map_cons, List.find?_cons_of_neg (by simp [e])]
        exact ih
  exact this ks hk
theorem KH.add {B H : Hp} {d : Addr} {ks : List Int} {A : Int → Addr} {M M' : Int → List (Int × Int)} (h : KH B H d ks A M) {k : Int} (hk : k ∈ ks) {b : Addr} {m : Int × Int} (hb : H b = some (.tup [.int m.1, .int m.2])) {ws : List V} (e : H (A k) = some (.lst ws)) (hM : M' k = M k ++ [m]) (hM' : ∀ k' ∈ ks, k' ≠ k → M' k' = M k') : KH B (upd H (A k) (.lst (ws ++ [.ref b]))) d ks A M' := by
  have hbk : b ≠ A k := fun z => by rw [z, e] at hb; cases hb
  have hkeep : ∀ x m1 m2, H x = some (.tup [V.int m1, V.int m2]) → upd H (A k) (.lst (ws ++ [.ref b])) x = some (.tup [V.int m1, V.int m2]) := fun x m1 m2 hx => by
    rw [upd_ne (fun z => by rw [z, e] at hx; cases hx)]; exact hx
  refine ⟨same_upd h.s (h.ls k hk).1, by rw [upd_ne (fun z => by have := h.ed; rw [z, e] at this; cases this)]; exact h.ed, h.bd, fun k' hk' => ?_, h.inj⟩
  obtain ⟨b', ws', e', g'⟩ := h.ls k' hk'
  refine ⟨b', ?_⟩
  by_cases hkk : k' = k
  · subst hkk
    rw [e] at e'
    cases e'
    refine ⟨ws ++ [.ref b], upd_same, ?_⟩
    rw [rm_upd, hM, List.map_append]
    exact g'.append (.cons (pair_rep (by rw [rm_ne hbk]; exact hb)) .nil)
  · have hne : A k' ≠ A k := fun z => hkk (h.inj k' hk' k hk z)
    refine ⟨ws', by rw [upd_ne hne]; exact e', ?_⟩
    rw [hM' k' hk' hkk]
    refine pairs_mono (fun x m1 m2 hx => ?_) g'
    by_cases hxk : x = A k'
    · rw [hxk, rm_self] at hx; cases hx
    · rw [rm_ne hxk] at hx ⊢
      exact hkeep _ _ _ hx
theorem KH.mk0 {B H : Hp} {d : Addr} {ks : List Int} {ls : List Addr} (s : Same B H) (hl : ls.length = ks.length) (hn : ks.Nodup) (ed : H d = some (.dK (ks.zipWith (fun k l => ((Sum.inl k : Key), V.ref l)) ls))) (bd : B d = none) (hls : ∀ l ∈ ls, B l = none ∧ H l = some (.lst [])) (hln : ls.Nodup) : ∃ A, KH B H d ks A fun _ => [] := by
  have hidx : ∀ j (hj : j < ks.length), ks.idxOf ks[j] = j := fun j hj => List.Nodup.idxOf_getElem hn j hj
  have hA : ∀ k ∈ ks, ∃ (h : ks.idxOf k < ls.length), True := fun k hk => ⟨by rw [hl]; exact List.idxOf_lt_length_of_mem hk, trivial⟩
  refine ⟨fun k => ls.getD (ks.idxOf k) 0, s, ?_, bd, fun k hk => ?_, fun k hk k' hk' z => ?_⟩
  · rw [ed]
    congr 2
    refine List.ext_getElem (by simp [hl]) fun i h1 h2 => ?_
    rw [List.getElem_zipWith, List.getElem_map, hidx, List.getD_eq_getElem?_getD, List.getElem?_eq_getElem (by rw [hl]; simpa using h2)]; rfl
  · obtain ⟨h, _⟩ := hA k hk
    rw [List.getD_eq_getElem?_getD, List.getElem?_eq_getElem h]
    obtain ⟨h1, h2⟩ := hls _ (List.getElem_mem h)
    exact ⟨h1, [], h2, .nil⟩
  · obtain ⟨h, _⟩ := hA k hk
    obtain ⟨h', _⟩ := hA k' hk'
    rw [List.getD_eq_getElem?_getD, List.getElem?_eq_getElem h, List.getD_eq_getElem?_getD, List.getElem?_eq_getElem h'] at z
    have := nd_inj hln h h' z
    have a := List.getElem_idxOf (List.idxOf_lt_length_of_mem hk)
    have b := List.getElem_idxOf (List.idxOf_lt_length_of_mem hk')
    rw [← a, ← b]
    simp only [this]
end K43C
namespace K43C
open PySem L2 L3 K43
theorem deps_pairs : ∀ ks : List (Int × Int), deps (ks.map pairD) ≤ 100
  | [] => by decide
  | k :: ks => by
    have := deps_pairs ks
    have e : (pairD k).dep ≤ 5 := by show D.dep (.tup [.int k.1, .int k.2]) ≤ 5; simp [D.dep, deps]
    rw [List.map_cons, deps]
    lia
noncomputable def spIsRow : Sp := fun vs H Q _ => ∃ (v : V) (e : Int × Int × Int), vs = [v] ∧ Rep H v (rowD e) ∧ ∀ H', Same H H' → Q (.bl true) H'
section
variable {P : Program} {w : World} {K : PySem.W.Frag} {mg : Str → Option Value} {base : Heap}
theorem ok_lmark {f : Addr} (F : Fd K mg "_law_mark" s_law_mark f) (T : Tx K mg) : Cal P w K mg base CX0 1 "_law_mark" spFrom := by
  refine F.cal sc_law_mark (fun _ _ _ _ _ _ us hl => L3.bind2 (fun _ _ => rfl) us hl) (fun vs H Q E h => ?_) (fun cdv A outer s H vs Q E hr h => ?_)
  · obtain ⟨a, ws, ks, room, rfl, _⟩ := h; rfl
  · obtain ⟨a, ws, ks, room, rfl, ea, rs, hlen, q⟩ := h
    have hl := rs.length
    rw [List.length_map] at hl
    refine ⟨_, (bcons (sif (tcmp (rEqq hr) (qv 0) (qlst qnil) (nomark _)) (bone (sret (qtup (qcons qint (qcons qint qnil))))) bnil)
      (bcons (sset (i := 2) sc_law_mark.nd rfl (by first | exact Or.inl rfl | exact Or.inr rfl) (qB (fMax K) rfl T.b_max bt_max (qcons (qcomp (sc := defScope s_law_mark) (NX := ["_law_kids", "_law_room", "_law_level_here", "_law_size"]) ["_law_kid"] [none] rfl (iseq K (qv 0)) (fun _ _ _ => (gname (i := 0) (show (["_law_kid"] : List Str).Nodup by decide +kernel) rfl (by first | exact Or.inl rfl | exact Or.inr rfl))) (fun _ _ _ => csnil) (fun _ _ _ => (qix (xIx K) (qv 0) qint (fun _ _ => rfl))) rfl rfl (by decide +kernel)) qnil)))
      (bcons (sset (i := 3) sc_law_mark.nd rfl (by first | exact Or.inl rfl | exact Or.inr rfl) (qop rAdd qint (qB (fSum K) rfl T.b_sum bt_sum (qcons (qcomp (sc := defScope s_law_mark) (NX := ["_law_kids", "_law_room", "_law_level_here", "_law_size"]) ["_law_kid", "_law_level_here"] [none, some 2] rfl (iseq K (qv 0)) (fun _ _ _ => (gname (i := 0) (show (["_law_kid", "_law_level_here"] : List Str).Nodup by decide +kernel) rfl (by first | exact Or.inl rfl | exact Or.inr rfl))) (fun _ _ _ => (csone (tcmp (rEqq hr) (qix (xIx K) (qv 0) qint (fun _ _ => rfl)) (qv 1) (nomark _)))) (fun _ _ _ => (qix (xIx K) (qv 0) qint (fun _ _ => rfl))) rfl rfl (by decide +kernel)) qnil))))
      (bcons (sif (tcmp rLe (qv 3) (qv 1) (nomark _)) (bone (sret (qtup (qcons (qv 2) (qcons (qv 3) qnil))))) bnil)
      (bone (sret (qtup (qcons (qop rAdd (qv 2) qint) (qcons qint qnil))))))))), ?_⟩
    refine ⟨_, rfl, (show 0 ≤ sizeLine by decide), fun l0 H0 n0 s0 e0 _ => ?_⟩
    refine eq_nilD (s0 _ _ ea) (rs.mono s0) (pures_map pure_pair _) (deps_pairs _) e0 ?_
    have ea := s0 _ _ ea
    have rs := rs.mono s0
    refine ⟨_, rfl, ?_⟩
    cases ks with
    | nil =>
      cases rs
      refine ⟨(show 2 ≤ sizeLine by decide), fun b H1 n1 s1 e1 _ => ?_⟩
      exact q b H1 (s0.trans s1) e1
    | cons k0 ks' =>
      refine iteF ?_
      generalize hks : (k0 :: ks') = ks at *
      -- level
      refine ⟨_, rfl, a, rfl, .inl ⟨⟨_, SqL.of ea⟩, fun acc ha => ?_⟩⟩
      refine comp_list (xs := ws) (fun i ys σ H' => ∃ z, σ = [z] ∧ Same H0 H' ∧ H' acc = some (.lst ys) ∧ ys = ((ks.take i).map (·.1)).map V.int) ⟨none, rfl, same_new ha, upd_same, rfl⟩ (fun i ys σ H' hh => by obtain ⟨_, _, s', _⟩ := hh; exact SqL.of (s' _ _ ea)) ?_ ?_
      · rintro i ys y σ H2 hy hi ⟨z, rfl, s2, e2, rfl⟩
        obtain ⟨m, hm, gm⟩ := reps_map rs hy
        obtain ⟨b, rfl, eb⟩ := rep_pair gm
        refine ⟨_, rfl, b, _, 0, _, rfl, rfl, .inr (SqT.of (s2 _ _ eb)), atI_nat (j := 0) rfl, ?_⟩
        refine cpost e2 (sizeBig (by simp; lia)) hi ?_
        exact ⟨_, rfl, same_upd s2 ha, upd_same, by rw [List.take_add_one, hm, List.map_append, List.map_append]; rfl⟩
      · rintro ys σ H2 ⟨z, rfl, s2, e2, rfl⟩
        rw [List.take_of_length_le (by lia)] at e2
        refine ⟨acc, ks.map (·.1), rfl, SqL.of e2, by rw [← hks]; simp, fun M hM1 hM2 => ?_⟩
        have hMm := maxI_spec _ M hM1 hM2
        have hne : ks ≠ [] := by rw [← hks]; simp
        have hrule := rule_cons (room := room) hne hMm
        -- size
        refine ⟨_, rfl, a, rfl, .inl ⟨⟨_, SqL.of (s2 _ _ ea)⟩, fun acc2 ha2 => ?_⟩⟩
        refine comp_list (xs := ws) (fun i ys σ H' => ∃ z, σ = [z, some (.int M)] ∧ Same H2 H' ∧ H' acc2 = some (.lst ys) ∧ ys = (((ks.take i).filter fun p => decide (p.1 = M)).map (·.2)).map V.int) ⟨none, rfl, same_new ha2, upd_same, rfl⟩ (fun i ys σ H' hh => by obtain ⟨_, _, s', _⟩ := hh; exact SqL.of (s' _ _ (s2 _ _ ea))) ?_ ?_
        · rintro i ys y σ H3 hy hi ⟨z, rfl, s3, e3, rfl⟩
          obtain ⟨m, hm, gm⟩ := reps_map rs hy
          obtain ⟨b, rfl, eb⟩ := rep_pair gm
          have eb3 := s3 _ _ (s2 _ _ eb)
          have hfl := List.length_filter_le (fun p : Int × Int => decide (p.1 = M)) (ks.take i)
          rw [List.length_take] at hfl
          have htk : (ks.take (i + 1)).filter (fun p => decide (p.1 = M)) = (ks.take i).filter (fun p => decide (p.1 = M)) ++ (if m.1 = M then [m] else []) := by
            rw [List.take_add_one, hm, List.filter_append]
            congr 1
            by_cases h : m.1 = M <;> simp [h]
          refine ⟨_, rfl, b, _, 0, _, rfl, rfl, .inr (SqT.of eb3), atI_nat (j := 0) rfl, _, rfl, _, rfl, ?_⟩
          refine ite2 (fun h => ?_) (fun h => ?_)
          · have h : m.1 = M := of_decide_eq_true h
            rw [if_pos h] at htk
            refine ⟨_, rfl, b, _, 1, _, rfl, rfl, .inr (SqT.of eb3), atI_nat (j := 1) rfl, ?_⟩
            refine cpost e3 (sizeBig (by simp only [List.length_map]; lia)) hi ?_
            exact ⟨_, rfl, same_upd s3 ha2, upd_same, by rw [htk, List.map_append, List.map_append]; rfl⟩
          · have h : ¬ m.1 = M := fun z => h (decide_eq_true z)
            rw [if_neg h, List.append_nil] at htk
            refine cskip hi (ys := (((ks.take i).filter fun p => decide (p.1 = M)).map (·.2)).map V.int) ?_
            exact ⟨_, rfl, s3, e3, by rw [htk]⟩
        · rintro ys σ H3 ⟨z, rfl, s3, e3, rfl⟩
          rw [List.take_of_length_le (by lia)] at e3
          refine ⟨acc2, _, rfl, SqL.of e3, ?_⟩
          -- the end
          refine ⟨_, rfl, _, rfl, _, _, rfl, rfl, _, rfl, ?_⟩
          refine ite2 (fun h => ?_) (fun h => ?_)
          · have h := of_decide_eq_true h
            rw [if_pos h] at hrule
            refine ⟨_, rfl, _, rfl, (show 2 ≤ sizeLine by decide), fun b H4 n4 s4 e4 _ => ?_⟩
            refine q b H4 (s0.trans (s2.trans (s3.trans s4))) ?_
            rw [hrule]; exact e4
          · have h : ¬ _ := fun z => h (decide_eq_true z)
            rw [if_neg h] at hrule
            refine ⟨_, rfl, (show 2 ≤ sizeLine by decide), fun b H4 n4 s4 e4 _ => ?_⟩
            refine q b H4 (s0.trans (s2.trans (s3.trans s4))) ?_
            rw [hrule]; exact e4
theorem ok_isrow {f : Addr} (F : Fd K mg "_law_is_row" s_law_is_row f) (T : Tx K mg) : Cal P w K mg base CX0 1 "_law_is_row" spIsRow := by
  refine F.cal sc_law_is_row (fun _ _ _ _ _ _ us hl => L3.bind1 (fun _ => rfl) us hl) (fun vs H Q E h => ?_) (fun cdv A outer s H vs Q E hr h => ?_)
  · obtain ⟨v, e, rfl, _⟩ := h; rfl
  · obtain ⟨v, e, rfl, gv, q⟩ := h
    obtain ⟨a, rfl, ea⟩ := rep_row gv
    refine ⟨_, (bcons (sif (QW.tst (wor (tnot (ttru K (qB (fIsi K) rfl T.b_isinstance bt_isinstance (qcons (qv 0) (qcons (qty rfl T.b_tuple bt_tuple) qnil))) (fun _ => rfl))) (wor1 (tcmp (rNeq hr) (qB (fLen K) rfl T.b_len bt_len (qcons (qv 0) qnil)) qint (nomark _))))) (bone (sret qbl)) bnil)
      (bone (sret (qcmp (rEqq hr) (qcomp (sc := defScope s_law_is_row) (NX := ["_law_row"]) ["_law_one"] [none] rfl (iseq K (qv 0)) (fun _ _ _ => (gname (i := 0) (show (["_law_one"] : List Str).Nodup by decide +kernel) rfl (by first | exact Or.inl rfl | exact Or.inr rfl))) (fun _ _ _ => (csone (QW.tst (wor (tnot (ttru K (qB (fIsi K) rfl T.b_isinstance bt_isinstance (qcons (qv 0) (qcons (qty rfl T.b_int bt_int) qnil))) (fun _ => rfl))) (wor1 (ttru K (qB (fIsi K) rfl T.b_isinstance bt_isinstance (qcons (qv 0) (qcons (qty rfl T.b_bool bt_bool) qnil))) (fun _ => rfl))))))) (fun _ _ _ => (qv 0)) rfl rfl (by decide +kernel)) (qlst qnil) (nomark _))))), ?_⟩
    refine ⟨_, rfl, .ref a, _, _, _, rfl, TyOf.tup ea, kit_tuple K (.tup []), ?_⟩
    refine ⟨_, rfl, ?_⟩
    refine iteF ?_
    refine ⟨_, rfl, a, _, rfl, .inr (SqT.of ea), _, rfl, ?_⟩
    refine iteF ?_
    refine ⟨_, rfl, a, rfl, .inr ⟨⟨_, SqT.of ea⟩, fun acc ha => ?_⟩⟩
    refine comp_tup (xs := [.int e.1, .int e.2.1, .int e.2.2]) (fun i ys σ H' => ∃ z, σ = [z] ∧ Same H H' ∧ H' acc = some (.lst ys) ∧ ys = []) ⟨none, rfl, same_new ha, upd_same, rfl⟩ (fun i ys σ H' hh => by obtain ⟨_, _, s', _⟩ := hh; exact SqT.of (s' _ _ ea)) ?_ ?_
    · rintro i ys y σ H2 hy hi ⟨z, rfl, s2, e2, rfl⟩
      obtain ⟨n, rfl⟩ : ∃ n : Int, y = .int n := by
        have := List.mem_of_getElem? hy
        simp only [List.mem_cons, List.not_mem_nil, or_false] at this
        rcases this with h | h | h <;> exact ⟨_, h⟩
      refine ⟨_, rfl, .int n, _, _, _, rfl, (Rep.int (H := H2) n).ty, kit_int K (.int n), _, rfl, ?_⟩
      refine iteF ?_
      refine ⟨_, rfl, .int n, _, _, _, rfl, (Rep.int (H := H2) n).ty, kit_bool K (.int n), _, rfl, ?_⟩
      refine iteF ?_
      refine cskip hi (ys := []) ?_
      exact ⟨_, rfl, s2, e2, rfl⟩
    · rintro ys σ H2 ⟨z, rfl, s2, e2, rfl⟩
      refine ⟨(show 0 ≤ sizeLine by decide), fun l3 H3 n3 s3 e3 _ => ?_⟩
      refine eq_nilD (s3 _ _ e2) .nil rfl (by decide) e3 ?_
      exact q H3 (s2.trans s3)
end
end K43C
namespace K43C
open PySem L2 L3 K43
theorem pre_at {t : Tr} {i : Nat} {k : Key} {x : V} (h : (upsL t none)[i]? = some (k, x)) : ∃ c, (pre t)[i]? = some c ∧ k = Sum.inl c := by
  have h1 : ((upsL t none).map (·.1))[i]? = some k := by rw [List.getElem?_map, h]; rfl
  rw [pre_ups, List.getElem?_map] at h1
  obtain ⟨c, hc, rfl⟩ := Option.map_eq_some_iff.mp h1
  exact ⟨c, hc, rfl⟩
theorem up_is {t : Tr} (hn : t.keys.Nodup) {p : Nat} {c : Int} (h : (pre t)[p]? = some c) : (p = 0 ∧ c = top1 t ∧ t ≠ .nil ∧ valV (upsL t none) (Sum.inl c : Key) = some .non) ∨ ∃ j u, p = j + 1 ∧ (upT t)[j]? = some (c, u) ∧ valV (upsL t none) (Sum.inl c : Key) = some (.int u) := by
  have hne : t ≠ .nil := fun z => by subst z; simp [pre, Tr.key?, upT] at h
  have hu : upsL t none = ((Sum.inl (top1 t) : Key), V.non) :: (upT t).map fun e => ((Sum.inl e.1 : Key), V.int e.2) := by rw [ups_is, key_top hne]; rfl
  rw [pre_ne hne] at h
  cases p with
  | zero =>
    have h : top1 t = c := by simpa using h
    refine .inl ⟨rfl, h.symm, hne, valV_some' (upsL_nodup hn none) ?_⟩
    rw [hu, h]; exact .head _
  | succ j =>
    rw [List.getElem?_cons_succ, List.getElem?_map] at h
    obtain ⟨⟨c', u⟩, he, rfl⟩ := Option.map_eq_some_iff.mp h
    refine .inr ⟨j, u, rfl, he, valV_some' (upsL_nodup hn none) ?_⟩
    rw [hu]
    exact List.mem_cons_of_mem _ (List.mem_map.mpr ⟨_, List.mem_of_getElem? he, rfl⟩)
noncomputable def spLevel : Sp := fun vs H Q _ => ∃ (ud : Addr) (room : Int) (t : Tr), vs = [.ref ud, .int room] ∧ Rd H ud (.dK (upsL t none)) ∧ t.size ≤ 60 ∧ t.keys.Nodup ∧ ∀ H', Same (rm ud H) H' → Rd H' ud (.dK (upsL t none)) → Q (.int (t.mark room).1) H'
noncomputable def Mr (room : Int) (t : Tr) (i : Nat) (k : Int) : List (Int × Int) := ((((upT t).drop ((pre t).length - 1 - i)).filter fun e => decide (e.2 = k)).map fun e => mf room t e.1).reverse
structure Kc (J H : Hp) (acc : Addr) (t : Tr) (i : Nat) (bs ls : List Addr) : Prop where
  s : Same J H
  e : H acc = some (.lst (bs.map V.ref))
  lb : bs.length = i
  ll : ls.length = i
  hp : ∀ (j : Nat) b l c, bs[j]? = some b → ls[j]? = some l → (pre t)[j]? = some c → H b = some (.tup [.int c, .ref l])
  hls : ∀ l ∈ ls, J l = none ∧ H l = some (.lst [])
  nd : ls.Nodup
theorem Kc.zero {J : Hp} {acc : Addr} {t : Tr} (ha : J acc = none) : Kc J (upd J acc (.lst [])) acc t 0 [] [] :=
  ⟨same_new ha, upd_same, rfl, rfl, (fun j b l c h => by simp at h), (fun l h => by cases h), List.nodup_nil⟩
theorem Kc.step {J H2 H3 H4 : Hp} {acc l b : Addr} {t : Tr} {i : Nat} {bs ls : List Addr} {c : Int} (h : Kc J H2 acc t i bs ls) (ha : J acc = none) (hc : (pre t)[i]? = some c) (n3 : H2 l = none) (s3 : Same H2 H3) (e3 : H3 l = some (.lst [])) (n4 : H3 b = none) (s4 : Same H3 H4) (e4 : H4 b = some (.tup [.int c, .ref l])) :
    Kc J (upd H4 acc (.lst (bs.map V.ref ++ [.ref b]))) acc t (i + 1) (bs ++ [b]) (ls ++ [l]) := by
  obtain ⟨s2, e2, lb, ll, hp, hls, hnd⟩ := h
  have s24 := s3.trans s4
  have hla : l ≠ acc := fun z => by rw [z, e2] at n3; cases n3
  have hba : b ≠ acc := fun z => by rw [z, s3 _ _ e2] at n4; cases n4
  refine ⟨same_upd (s2.trans s24) ha, by rw [List.map_append]; exact upd_same, by rw [List.length_append, lb]; rfl, by rw [List.length_append, ll]; rfl, fun j b' l' c' h1 h2 h3 => ?_, fun l' hl' => ?_, ?_⟩
  · by_cases hj : j < i
    · rw [List.getElem?_append_left (by lia)] at h1 h2
      have h4 := hp j b' l' c' h1 h2 h3
      rw [upd_ne (fun z => by rw [z, e2] at h4; cases h4)]
      exact s24 _ _ h4
    · have hjl := (List.getElem?_eq_some_iff.mp h1).1
      rw [List.length_append, lb, List.length_singleton] at hjl
      have hji : j = i := by lia
      subst hji
      rw [List.getElem?_append_right (by lia), lb, Nat.sub_self] at h1
      rw [List.getElem?_append_right (by lia), ll, Nat.sub_self] at h2
      cases h1; cases h2
      rw [hc] at h3
      cases h3
      rw [upd_ne hba]; exact e4
  · rcases List.mem_append.mp hl' with h | h
    · obtain ⟨h1, h2⟩ := hls l' h
      refine ⟨h1, ?_⟩
      have hne : l' ≠ acc := fun z => by
        rw [z] at h1
        rw [z, e2] at h2
        have h3 : bs.map V.ref = [] := by injection h2 with h2; injection h2
        have h4 := congrArg List.length h3
        rw [List.length_map, lb] at h4
        have h5 := List.length_pos_of_mem h
        rw [ll] at h5
        simp at h4
        lia
      rw [upd_ne hne]; exact s24 _ _ h2
    · rw [List.mem_singleton] at h
      subst h
      exact ⟨s2.free n3, by rw [upd_ne hla]; exact s4 _ _ e3⟩
  · refine List.nodup_append.mpr ⟨hnd, by simp, fun x hx y hy z => ?_⟩
    rw [List.mem_singleton] at hy
    subst hy; subst z
    have := (hls x hx).2
    rw [n3] at this; cases this
theorem Kc.pairs {J H : Hp} {acc : Addr} {t : Tr} {bs ls : List Addr} (h : Kc J H acc t (upsL t none).length bs ls) : bs.length = ((pre t).zipWith (fun k l => ((Sum.inl k : Key), V.ref l)) ls).length ∧ ∀ (j : Nat) b pr, bs[j]? = some b → ((pre t).zipWith (fun k l => ((Sum.inl k : Key), V.ref l)) ls)[j]? = some pr → H b = some (.tup [kV pr.1, pr.2]) := by
  have hul : (upsL t none).length = (pre t).length := by rw [upsL_len, pre_len]
  have lb := h.lb
  have ll := h.ll
  refine ⟨by rw [List.length_zipWith]; lia, fun j b pr h1 h2 => ?_⟩
  rw [List.getElem?_zipWith] at h2
  cases hc : (pre t)[j]? with
  | none => rw [hc] at h2; cases h2
  | some c =>
    cases hl : ls[j]? with
    | none => rw [hc, hl] at h2; cases h2
    | some l =>
      rw [hc, hl] at h2
      cases h2
      exact h.hp j b l c h1 hl hc
theorem Kc.kh {J H H3 : Hp} {acc d : Addr} {t : Tr} {bs ls : List Addr} (h : Kc J H acc t (upsL t none).length bs ls) (hnd : t.keys.Nodup) (n3 : H d = none) (s3 : Same H H3) (e3 : H3 d = some (.dK (mergeK [] ((pre t).zipWith (fun k l => ((Sum.inl k : Key), V.ref l)) ls)))) : ∃ A, KH J H3 d (pre t) A (fun _ => []) := by
  have hul : (upsL t none).length = (pre t).length := by rw [upsL_len, pre_len]
  have hpn := pre_nd hnd
  have ll := h.ll
  have hzk : ((pre t).zipWith (fun k l => ((Sum.inl k : Key), V.ref l)) ls).map (·.1) = (pre t).map Sum.inl := by
    refine List.ext_getElem (by simp; lia) fun i h1 h2 => by simp
  rw [merge_app _ _ (by rw [List.nil_append, hzk]; exact List.Pairwise.map _ (fun a b hab z => hab (Sum.inl.inj z)) hpn), List.nil_append] at e3
  exact KH.mk0 (h.s.trans s3) (by lia) hpn e3 (h.s.free n3) (fun l hl => ⟨(h.hls l hl).1, s3 _ _ (h.hls l hl).2⟩) h.nd
section
variable {P : Program} {w : World} {K : PySem.W.Frag} {mg : Str → Option Value} {base : Heap}
theorem ok_level {f : Addr} (F : Fd K mg "_law_level" s_law_level f) (T : Tx K mg) (C_law_mark : Cal P w K mg base CX0 1 "_law_mark" spFrom) : Cal P w K mg base CX0 2 "_law_level" spLevel := by
  refine F.cal sc_law_level (fun _ _ _ _ _ _ us hl => L3.bind2 (fun _ _ => rfl) us hl) (fun vs H Q E h => ?_) (fun cdv A outer s H vs Q E hr h => ?_)
  · obtain ⟨ud, room, t, rfl, _⟩ := h; rfl
  · obtain ⟨ud, room, t, rfl, hu, hz, hnd, q⟩ := h
    refine ⟨_, (bcons (sset (i := 2) sc_law_level.nd rfl (by first | exact Or.inl rfl | exact Or.inr rfl) (qTy (fDictP K) rfl T.b_dict bt_dict (qcons (qcomp (sc := defScope s_law_level) (NX := ["_law_ups_here", "_law_room", "_law_kids", "_law_level_here", "_law_key", "_law_mark_here"]) ["_law_key"] [none] rfl (idict (qv 0)) (fun _ _ _ => (gname (i := 0) (show (["_law_key"] : List Str).Nodup by decide +kernel) rfl (by first | exact Or.inl rfl | exact Or.inr rfl))) (fun _ _ _ => csnil) (fun _ _ _ => (qtup (qcons (qv 0) (qcons (qlst qnil) qnil)))) rfl rfl (by decide +kernel)) qnil)))
      (bcons (sset (i := 3) sc_law_level.nd rfl (by first | exact Or.inl rfl | exact Or.inr rfl) qint)
      (bcons (sfor PassesOwn.never rfl (irev K rfl T.b_reversed (qcons (qTy fListD rfl T.b_list bt_list (qcons (qv 0) qnil)) qnil)) (gname (i := 4) sc_law_level.nd rfl (by first | exact Or.inl rfl | exact Or.inr rfl))
        (bcons (sset (i := 5) sc_law_level.nd rfl (by first | exact Or.inl rfl | exact Or.inr rfl) (qF C_law_mark (hr.mono (by lia)) pass0 rfl (qcons (qdget hr (qv 2) (qv 4) (fun _ _ => rfl)) (qcons (qv 1) qnil))))
        (bcons (sset (i := 3) sc_law_level.nd rfl (by first | exact Or.inl rfl | exact Or.inr rfl) (qix (xIx K) (qv 5) qint (fun _ _ => rfl)))
        (bone (sif (tcmp rIsNot (qdget hr (qv 0) (qv 4) (fun _ _ => rfl)) qnon (nomark _)) (bone (sexpr (qBm K PySem.F.plainAttrs_list PySem.F.slot_list_append PySem.F.type_list_append mAppend (qdget hr (qv 2) (qdget hr (qv 0) (qv 4) (fun _ _ => rfl)) (fun _ _ => rfl)) (qcons (qv 5) qnil)))) bnil)))))
      (bone (sret (qv 3)))))), ?_⟩
    refine ⟨_, rfl, ud, _, rfl, hu, fun ob H1 e1 s1 acc ha => ?_⟩
    have hud : ud ≠ acc := fun z => by rw [z, ha] at e1; cases e1
    refine comp_dict (kvs := upsL t none) (fun i ys σ H' => ∃ (z : Option V) (bs ls : List Addr), σ = [z] ∧ ys = bs.map V.ref ∧ Kc H1 H' acc t i bs ls) ⟨none, [], [], rfl, rfl, Kc.zero ha⟩ (fun i ys σ H' ⟨_, _, _, _, _, W⟩ => W.s _ _ e1) ?_ ?_
    · rintro i ys k x σ H2 hk hi ⟨z, bs, ls, rfl, rfl, W⟩
      obtain ⟨c, hc, rfl⟩ := pre_at hk
      refine ⟨_, rfl, (show 0 ≤ sizeLine by decide), fun l H3 n3 s3 e3 _ => ?_⟩
      refine ⟨(show 2 ≤ sizeLine by decide), fun b H4 n4 s4 e4 _ => ?_⟩
      refine cpost ((s3.trans s4) _ _ W.e) (sizeBig (by rw [List.length_map, W.lb]; rw [upsL_len] at hi; lia)) hi ?_
      exact ⟨_, bs ++ [b], ls ++ [l], rfl, by rw [List.map_append]; rfl, W.step ha hc n3 s3 e3 n4 s4 e4⟩
    rintro ys σ H2 ⟨z, bs, ls, rfl, rfl, W⟩
    refine ⟨acc, bs, (pre t).zipWith (fun k l => ((Sum.inl k : Key), V.ref l)) ls, rfl, SqL.of W.e, W.pairs.1, W.pairs.2, fun d H3 n3 s3 e3 _ => ?_⟩
    obtain ⟨A, KA⟩ := W.kh hnd n3 s3 e3
    have hu1 : Rd H1 ud (.dK (upsL t none)) := .inr ⟨ob, e1⟩
    have hpl := pre_len t
    refine ⟨_, rfl, ud, _, rfl, rd_mono hu1 KA.s, fun lst H4 n4 s4 e4 _ => ?_⟩
    have hmp : ((upsL t none).map fun kv => kV kv.1) = (pre t).map V.int := by
      have : ((upsL t none).map fun kv => kV kv.1) = ((upsL t none).map (·.1)).map kV := by rw [List.map_map]; rfl
      rw [this, pre_ups, List.map_map]; rfl
    rw [hmp] at e4
    have hlA : ∀ k ∈ pre t, lst ≠ A k := fun k hk z => by
      obtain ⟨_, ws, e, _⟩ := KA.ls k hk
      rw [z, e] at n4; cases n4
    have hut : t ≠ .nil → (upT t).length + 1 = (pre t).length := fun h => by rw [pre_ne h]; simp
    refine ⟨lst, _, rfl, SqL.of e4, for_rev (xs := (pre t).map V.int) (fun i σ H' => ∃ (lv : Int) (z4 z5 : Option V), σ = [some (.ref ud), some (.int room), some (.ref d), some (.int lv), z4, z5] ∧ KH H1 H' d (pre t) A (Mr room t i) ∧ H' lst = some (.lst ((pre t).map V.int)) ∧ (i = 0 → lv = 0) ∧ ∀ c, i ≠ 0 → (pre t)[(pre t).length - i]? = some c → lv = (mf room t c).1) ?_ (fun i σ H' _ hh => by obtain ⟨_, _, _, _, _, e', _⟩ := hh; exact SqL.of e') ?_ ?_⟩
    · have e : Mr room t 0 = fun _ => [] := by
        funext k
        unfold Mr
        have : (upT t).drop ((pre t).length - 1 - 0) = [] := List.drop_eq_nil_of_le (by
          by_cases h : t = .nil
          · subst h; simp [upT]
          · have := hut h; lia)
        rw [this]; rfl
      exact ⟨0, none, none, rfl, by rw [e]; exact KA.mono s4, e4, fun _ => rfl, fun c h => absurd rfl h⟩
    · rintro i x σ H5 hi hx ⟨lv, z4, z5, rfl, KI, el, _, _⟩
      rw [List.length_map] at hi hx
      rw [List.getElem?_map] at hx
      obtain ⟨c, hc, rfl⟩ := Option.map_eq_some_iff.mp hx
      have hcm : c ∈ pre t := List.mem_of_getElem? hc
      have hne : t ≠ .nil := fun z => by subst z; simp [pre, Tr.key?, upT] at hcm
      have hut := hut hne
      obtain ⟨hrule, hk2⟩ := mf_rule (room := room) hnd (pre_mem.mp hcm)
      have hMc : Mr room t i c = ((kd t c).map (mf room t)).reverse := by
        unfold Mr kd
        rw [kd_behind hne hnd hc, List.map_map]; rfl
      obtain ⟨bA, ws, eA, gA⟩ := KI.ls c hcm
      have hMl : (Mr room t i c).length ≤ 1000 := by rw [hMc]; simp; lia
      refine ⟨_, rfl, _, rfl, d, _, rfl, KI.val hcm, _, rfl, A c, ws, Mr room t i c, room, rfl, eA, gA.mono rm_same, hMl, fun b H6 s6 e6 => ?_⟩
      rw [hMc, rule_rev (by simpa using hk2), hrule] at e6
      refine ⟨_, rfl, b, _, 0, _, rfl, rfl, .inr (SqT.of e6), atI_nat (j := 0) rfl, ?_⟩
      have K6 := KI.mono s6
      have hu6 := rd_mono hu1 K6.s
      have hlast : ∀ c', i + 1 ≠ 0 → (pre t)[(pre t).length - (i + 1)]? = some c' → (mf room t c).1 = (mf room t c').1 := fun c' _ h => by
        rw [show (pre t).length - (i + 1) = (pre t).length - 1 - i by lia, hc] at h
        cases h; rfl
      rcases up_is hnd hc with ⟨hp, _, _, hv⟩ | ⟨j, u, hp, hj, hv⟩
      · refine ⟨_, rfl, _, rfl, ud, .non, rfl, rdget hu6 hv, rfl, _, rfl, ?_⟩
        refine iteF ?_
        have hM : Mr room t (i + 1) = Mr room t i := by
          funext k; unfold Mr
          rw [show (pre t).length - 1 - (i + 1) = (pre t).length - 1 - i by lia]
        exact ⟨_, _, _, rfl, by rw [hM]; exact K6, s6 _ _ el, fun h => absurd h (by lia), hlast⟩
      · refine ⟨_, rfl, _, rfl, ud, .int u, rfl, rdget hu6 hv, rfl, _, rfl, ?_⟩
        refine iteT ?_
        have hum : u ∈ pre t := pre_mem.mpr (upT_up t _ (List.mem_of_getElem? hj)).1
        obtain ⟨bU, wu, eU, gU⟩ := K6.ls u hum
        have hwl := gU.length
        rw [List.length_map] at hwl
        have hMul : (Mr room t i u).length ≤ 1000 := by
          unfold Mr
          rw [List.length_reverse, List.length_map]
          refine Nat.le_trans (List.length_filter_le _ _) ?_
          rw [List.length_drop]; lia
        refine ⟨_, rfl, _, rfl, _, rfl, ud, .int u, rfl, rdget hu6 hv, d, _, rfl, K6.val hum, .inl ⟨rfl, _, SqL.of eU⟩, _, rfl, A u, wu, _, rfl, rfl, eU, sizeBig (by lia), ?_⟩
        have hM : Mr room t (i + 1) u = Mr room t i u ++ [mf room t c] ∧ ∀ k' ∈ pre t, k' ≠ u → Mr room t (i + 1) k' = Mr room t i k' := by
          have hd : (upT t).drop ((pre t).length - 1 - (i + 1)) = (c, u) :: (upT t).drop ((pre t).length - 1 - i) := by
            rw [show (pre t).length - 1 - (i + 1) = j by lia, show (pre t).length - 1 - i = j + 1 by lia]
            obtain ⟨h1, h2⟩ := List.getElem?_eq_some_iff.mp hj
            rw [← h2, List.getElem_cons_drop]
          unfold Mr
          refine ⟨?_, fun k' _ hk' => ?_⟩
          · rw [hd, List.filter_cons_of_pos (by simp), List.map_cons, List.reverse_cons]
          · rw [hd, List.filter_cons_of_neg (by simp [Ne.symm hk'])]
        exact ⟨_, _, _, rfl, K6.add hum e6 eU hM.1 hM.2, by rw [upd_ne (hlA u hum)]; exact s6 _ _ el, fun h => absurd h (by lia), hlast⟩
    · rintro σ H5 ⟨lv, z4, z5, rfl, KI, el, h0, h1⟩
      rw [List.length_map] at h0 h1
      refine ⟨_, rfl, ?_⟩
      have hlv : lv = (t.mark room).1 := by
        by_cases h : t = .nil
        · subst h
          rw [h0 rfl]; rfl
        · have := hut h
          rw [← mf_top hnd h]
          refine h1 _ (by lia) ?_
          rw [Nat.sub_self, pre_ne h]; rfl
      rw [hlv]
      exact q H5 (s1.trans KI.s) (rd_mono hu1 KI.s)
end
end K43C
namespace K43C
open PySem L2 L3 K43
noncomputable def Mf (room : Int) (t : Tr) (i : Nat) (k : Int) : List (Int × Int) := (((upT t).take (i - 1)).filter fun e => decide (e.2 = k)).map fun e => mf room t e.1
theorem KH.sub {B B' H : Hp} {d : Addr} {ks : List Int} {A : Int → Addr} {M : Int → List (Int × Int)} (h : KH B H d ks A M) (s : Same B' B) : KH B' H d ks A M :=
  ⟨s.trans h.s, h.ed, s.free h.bd, fun k hk => ⟨s.free (h.ls k hk).1, (h.ls k hk).2⟩, h.inj⟩
theorem KH.walk {B H H' : Hp} {d ud : Addr} {ks : List Int} {A : Int → Addr} {M : Int → List (Int × Int)} {kvs : List (Key × V)} (h : KH B H d ks A M) (hu : Rd H ud (.dK kvs)) (hd : d ≠ ud) (hB : B ud = none) (s : Same (rm ud H) H') : KH B H' d ks A M := by
  have hl : ∀ x vs, H x = some (.lst vs) → x ≠ ud := fun x vs e z => by
    rw [z] at e
    rcases hu with z | ⟨o, z⟩ <;> rw [z] at e <;> cases e
  have ht : ∀ x vs, H x = some (.tup vs) → x ≠ ud := fun x vs e z => by
    rw [z] at e
    rcases hu with z | ⟨o, z⟩ <;> rw [z] at e <;> cases e
  refine ⟨fun x o hx => rm_look s (h.s _ _ hx) (fun z => by rw [z, hB] at hx; cases hx), rm_look s h.ed hd, h.bd, fun k hk => ?_, h.inj⟩
  obtain ⟨b, ws, e, g⟩ := h.ls k hk
  refine ⟨b, ws, rm_look s e (hl _ _ e), pairs_mono (fun x m1 m2 hx => ?_) g⟩
  by_cases hxk : x = A k
  · rw [hxk, rm_self] at hx; cases hx
  · rw [rm_ne hxk] at hx ⊢
    exact rm_look s hx (ht _ _ hx)
theorem DT.walk {H H' : Hp} {ud : Addr} {kvs kv2 : List (Key × V)} {tb : Tab} (h : DT H kvs tb) (hu : Rd H ud (.dK kv2)) (s : Same (rm ud H) H') : DT H' kvs tb := by
  induction h with
  | nil => exact .nil
  | cons e _ ih =>
    refine .cons (rm_look s e (fun z => ?_)) ih
    rw [z] at e
    rcases hu with z | ⟨o, z⟩ <;> rw [z] at e <;> cases e
theorem keys_so {t : Tr} (hr : t.keys.Pairwise (· < ·)) {ms : List Int} (pm : ms.Perm (pre t)) (ps : ms.Pairwise (· ≤ ·)) : ms = t.keys := by
  rw [so_one pm ps]
  exact (so_one (pre_perm t).symm (hr.imp fun h => Int.le_of_lt h)).symm
noncomputable def spTabR : Sp := fun vs H Q _ => ∃ (ud : Addr) (room : Int) (tr : Addr) (ws : List V) (number : Int) (t : Tr), vs = [.ref ud, .int room, .ref tr, .int number] ∧ Rd H ud (.dK (upsL t none)) ∧ t.size ≤ 60 ∧ t.keys.Pairwise (· < ·) ∧ t ≠ .nil ∧ H tr = some (.lst ws) ∧ Reps H ws ((t.io room).map rowD) ∧ number ≤ (t.mark room).1 ∧
  ∀ H', Same (rm ud H) H' → Rd H' ud (.dK (upsL t none)) → Q (.bl true) H'
section
variable {P : Program} {w : World} {K : PySem.W.Frag} {mg : Str → Option Value} {base : Heap}
theorem ok_tabR {f : Addr} (F : Fd K mg "_law_table_right" s_law_table_right f) (T : Tx K mg) (C_law_is_row : Cal P w K mg base CX0 1 "_law_is_row" spIsRow) (C_law_mark : Cal P w K mg base CX0 1 "_law_mark" spFrom) : Cal P w K mg base CX0 2 "_law_table_right" spTabR := by
  refine F.cal sc_law_table_right (fun _ _ _ _ _ _ us hl => L3.bind4 (fun _ _ _ _ => rfl) us hl) (fun vs H Q E h => ?_) (fun cdv A outer s H vs Q E hr h => ?_)
  · obtain ⟨ud, room, tr, ws, number, t, rfl, _⟩ := h; rfl
  · obtain ⟨ud, room, tr, ws, number, t, rfl, hu, hz, hr', hne, etr, gtr, hnum, q⟩ := h
    have hnd : t.keys.Nodup := hr'.imp fun h => Int.ne_of_lt h
    have hik := Tr.io_keys room t
    have hkl := Tr.keys_length t
    have hil : (t.io room).length = t.size := by rw [← hkl, ← hik, List.length_map]
    have hwl := gtr.length
    rw [List.length_map, hil] at hwl
    have hpl := pre_len t
    refine ⟨_, (bcons (sif (QW.tst (wor (tnot (ttru K (qB (fIsi K) rfl T.b_isinstance bt_isinstance (qcons (qv 2) (qcons (qty rfl T.b_list bt_list) qnil))) (fun _ => rfl))) (wor1 (tnot (ttru K (qB (fAll K) rfl T.b_all bt_all (qcons (qcomp (sc := defScope s_law_table_right) (NX := ["_law_ups_here", "_law_room", "_law_table", "_law_number", "_law_told", "_law_kids", "_law_key"]) ["_law_row"] [none] rfl (iseq K (qv 2)) (fun _ _ _ => (gname (i := 0) (show (["_law_row"] : List Str).Nodup by decide +kernel) rfl (by first | exact Or.inl rfl | exact Or.inr rfl))) (fun _ _ _ => csnil) (fun _ _ _ => (qF C_law_is_row (hr.mono (by lia)) pass0 rfl (qcons (qv 0) qnil))) rfl rfl (by decide +kernel)) qnil)) (fun _ => rfl)))))) (bone (sret qbl)) bnil)
      (bcons (sif (tcmp (rNeq hr) (qcomp (sc := defScope s_law_table_right) (NX := ["_law_ups_here", "_law_room", "_law_table", "_law_number", "_law_told", "_law_kids", "_law_key"]) ["_law_row"] [none] rfl (iseq K (qv 2)) (fun _ _ _ => (gname (i := 0) (show (["_law_row"] : List Str).Nodup by decide +kernel) rfl (by first | exact Or.inl rfl | exact Or.inr rfl))) (fun _ _ _ => csnil) (fun _ _ _ => (qix (xIx K) (qv 0) qint (fun _ _ => rfl))) rfl rfl (by decide +kernel)) (qB (fSortD) rfl T.b_sorted bt_sorted (qcons (qv 0) qnil)) (nomark _)) (bone (sret qbl)) bnil)
      (bcons (sset (i := 4) sc_law_table_right.nd rfl (by first | exact Or.inl rfl | exact Or.inr rfl) (qTy (fDictP K) rfl T.b_dict bt_dict (qcons (qcomp (sc := defScope s_law_table_right) (NX := ["_law_ups_here", "_law_room", "_law_table", "_law_number", "_law_told", "_law_kids", "_law_key"]) ["_law_row"] [none] rfl (iseq K (qv 2)) (fun _ _ _ => (gname (i := 0) (show (["_law_row"] : List Str).Nodup by decide +kernel) rfl (by first | exact Or.inl rfl | exact Or.inr rfl))) (fun _ _ _ => csnil) (fun _ _ _ => (qtup (qcons (qix (xIx K) (qv 0) qint (fun _ _ => rfl)) (qcons (qtup (qcons (qix (xIx K) (qv 0) qint (fun _ _ => rfl)) (qcons (qix (xIx K) (qv 0) qint (fun _ _ => rfl)) qnil))) qnil)))) rfl rfl (by decide +kernel)) qnil)))
      (bcons (sset (i := 5) sc_law_table_right.nd rfl (by first | exact Or.inl rfl | exact Or.inr rfl) (qTy (fDictP K) rfl T.b_dict bt_dict (qcons (qcomp (sc := defScope s_law_table_right) (NX := ["_law_ups_here", "_law_room", "_law_table", "_law_number", "_law_told", "_law_kids", "_law_key"]) ["_law_key"] [none] rfl (idict (qv 0)) (fun _ _ _ => (gname (i := 0) (show (["_law_key"] : List Str).Nodup by decide +kernel) rfl (by first | exact Or.inl rfl | exact Or.inr rfl))) (fun _ _ _ => csnil) (fun _ _ _ => (qtup (qcons (qv 0) (qcons (qlst qnil) qnil)))) rfl rfl (by decide +kernel)) qnil)))
      (bcons (sfor PassesOwn.never rfl (idict (qv 0)) (gname (i := 6) sc_law_table_right.nd rfl (by first | exact Or.inl rfl | exact Or.inr rfl))
        (bone (sif (tcmp rIsNot (qdget hr (qv 0) (qv 6) (fun _ _ => rfl)) qnon (nomark _)) (bone (sexpr (qBm K PySem.F.plainAttrs_list PySem.F.slot_list_append PySem.F.type_list_append mAppend (qdget hr (qv 5) (qdget hr (qv 0) (qv 6) (fun _ _ => rfl)) (fun _ _ => rfl)) (qcons (qdget hr (qv 4) (qv 6) (fun _ _ => rfl)) qnil)))) bnil)))
      (bcons (sfor PassesOwn.never rfl (idict (qv 0)) (gname (i := 6) sc_law_table_right.nd rfl (by first | exact Or.inl rfl | exact Or.inr rfl))
        (bone (sif (QW.tst (wor (tcmp (rGtQ K hr) (qdget hr (qv 4) (qv 6) (fun _ _ => rfl)) (qF C_law_mark (hr.mono (by lia)) pass0 rfl (qcons (qdget hr (qv 5) (qv 6) (fun _ _ => rfl)) (qcons (qv 1) qnil))) (nomark _)) (wor1 (QW.tst (wand (tcmp rIs (qdget hr (qv 0) (qv 6) (fun _ _ => rfl)) qnon (nomark _)) (wand1 (tcmp rLt (qix (xIx K) (qdget hr (qv 4) (qv 6) (fun _ _ => rfl)) qint (fun _ _ => rfl)) (qv 3) (nomark _)))))))) (bone (sret qbl)) bnil)))
      (bone (sret (qcmp (rNeDE hr) (qv 0) qdict (nomark _)))))))))), ?_⟩
    refine ⟨_, rfl, .ref tr, _, _, _, rfl, TyOf.lst etr, kit_list K (.lst []), ?_⟩
    refine ⟨_, rfl, ?_⟩
    refine iteF ?_
    refine ⟨_, rfl, tr, rfl, .inl ⟨⟨_, SqL.of etr⟩, fun ac1 ha1 => ?_⟩⟩
    refine comp_list (xs := ws) (fun i ys σ H' => ∃ z, σ = [z] ∧ Same H H' ∧ H' ac1 = some (.lst ys) ∧ ys = (List.replicate i true).map V.bl) ⟨none, rfl, same_new ha1, upd_same, rfl⟩ (fun i ys σ H' hh => by obtain ⟨_, _, s', _⟩ := hh; exact SqL.of (s' _ _ etr)) ?_ ?_
    · rintro i ys y σ G hy hi ⟨z, rfl, sG, eG, rfl⟩
      obtain ⟨m, hm, gm⟩ := reps_map gtr hy
      refine ⟨_, rfl, y, m, rfl, gm.mono sG, fun G2 s2 => ?_⟩
      refine cpost (s2 _ _ eG) (sizeBig (by simp; lia)) hi ?_
      exact ⟨_, rfl, same_upd (sG.trans s2) ha1, upd_same, by rw [List.replicate_succ', List.map_append]; rfl⟩
    rintro ys σ G1 ⟨z, rfl, sG1, eG1, rfl⟩
    refine ⟨ac1, _, rfl, SqL.of eG1, ?_⟩
    refine ⟨_, rfl, ?_⟩
    rw [show ((List.replicate ws.length true).all id) = true from List.all_eq_true.mpr fun x hx => by rw [(List.mem_replicate.mp hx).2]; rfl]
    refine iteF ?_
    -- the keys
    have etr1 := sG1 _ _ etr
    refine ⟨_, rfl, tr, rfl, .inl ⟨⟨_, SqL.of etr1⟩, fun ac2 ha2 => ?_⟩⟩
    refine comp_list (xs := ws) (fun i ys σ H' => ∃ z, σ = [z] ∧ Same G1 H' ∧ H' ac2 = some (.lst ys) ∧ ys = (((t.io room).take i).map (·.1)).map V.int) ⟨none, rfl, same_new ha2, upd_same, rfl⟩ (fun i ys σ H' hh => by obtain ⟨_, _, s', _⟩ := hh; exact SqL.of (s' _ _ etr1)) ?_ ?_
    · rintro i ys y σ G hy hi ⟨z, rfl, sG, eG, rfl⟩
      obtain ⟨m, hm, gm⟩ := reps_map gtr hy
      obtain ⟨b, rfl, eb⟩ := rep_row gm
      refine ⟨_, rfl, b, _, 0, _, rfl, rfl, .inr (SqT.of (sG _ _ (sG1 _ _ eb))), atI_nat (j := 0) rfl, ?_⟩
      refine cpost eG (sizeBig (by simp; lia)) hi ?_
      exact ⟨_, rfl, same_upd sG ha2, upd_same, by rw [List.take_add_one, hm, List.map_append, List.map_append]; rfl⟩
    rintro ys σ G2 ⟨z, rfl, sG2, eG2, rfl⟩
    rw [List.take_of_length_le (by lia), hik] at eG2
    have s02 := sG1.trans sG2
    refine ⟨_, rfl, ud, _, pre t, rfl, rd_mono hu s02, pre_ups t, by lia, fun so1 G3 ms nG3 sG3 eG3 pm ps => ?_⟩
    rw [keys_so hr' pm ps] at eG3
    refine ne_ints (sG3 _ _ eG2) eG3 ?_
    refine ⟨_, rfl, ?_⟩
    rw [decide_eq_true rfl]
    refine iteF ?_
    have s03 := s02.trans sG3
    -- what is told
    have etr3 := s03 _ _ etr
    refine ⟨_, rfl, tr, rfl, .inl ⟨⟨_, SqL.of etr3⟩, fun ac3 ha3 => ?_⟩⟩
    refine comp_list (xs := ws) (fun i ys σ H' => ∃ (z : Option V) (bs : List Addr) (prs : List (Key × V)), σ = [z] ∧ Same G3 H' ∧ H' ac3 = some (.lst ys) ∧ ys = bs.map V.ref ∧ bs.length = i ∧ DT H' prs ((t.io room).take i) ∧ ∀ (j : Nat) b pr, bs[j]? = some b → prs[j]? = some pr → H' b = some (.tup [kV pr.1, pr.2])) ⟨none, [], [], rfl, same_new ha3, upd_same, rfl, rfl, .nil, (fun j b pr h => by simp at h)⟩ (fun i ys σ H' hh => by obtain ⟨_, _, _, _, s', _⟩ := hh; exact SqL.of (s' _ _ etr3)) ?_ ?_
    · rintro i ys y σ G hy hi ⟨z, bs, prs, rfl, sG, eG, rfl, lb, DG, hp⟩
      obtain ⟨m, hm, gm⟩ := reps_map gtr hy
      obtain ⟨b, rfl, eb⟩ := rep_row gm
      have ebG := (s03.trans sG) _ _ eb
      have hprl := DG.length
      rw [List.length_take] at hprl
      refine ⟨_, rfl, b, _, 0, _, rfl, rfl, .inr (SqT.of ebG), atI_nat (j := 0) rfl, ?_⟩
      refine ⟨_, rfl, b, _, 1, _, rfl, rfl, .inr (SqT.of ebG), atI_nat (j := 1) rfl, ?_⟩
      refine ⟨_, rfl, b, _, 2, _, rfl, rfl, .inr (SqT.of ebG), atI_nat (j := 2) rfl, ?_⟩
      refine ⟨(show 2 ≤ sizeLine by decide), fun c1 G4 n4 s4 e4 _ => ?_⟩
      refine ⟨(show 2 ≤ sizeLine by decide), fun c2 G5 n5 s5 e5 _ => ?_⟩
      have s45 := s4.trans s5
      have eG5 := s45 _ _ eG
      refine cpost eG5 (sizeBig (by simp; lia)) hi ?_
      refine ⟨_, bs ++ [c2], prs ++ [((Sum.inl m.1 : Key), V.ref c1)], rfl, same_upd (sG.trans s45) ha3, upd_same, by rw [List.map_append]; rfl, by rw [List.length_append, lb]; rfl, ?_, fun j b' pr h1 h2 => ?_⟩
      · rw [List.take_add_one, hm]
        exact (((DG.mono s45).append (.cons (s5 _ _ e4) .nil))).upd eG5 (fun vs z => nomatch z)
      · have hback : upd G5 ac3 (.lst (bs.map V.ref ++ [.ref c2])) b' = G5 b' ∨ G5 b' = some (.lst (bs.map V.ref)) := by
          by_cases he : b' = ac3
          · exact .inr (by rw [he]; exact eG5)
          · exact .inl (upd_ne he)
        have hG5 : G5 b' = some (.tup [kV pr.1, pr.2]) := by
          by_cases hj : j < i
          · rw [List.getElem?_append_left (by lia)] at h1
            rw [List.getElem?_append_left (by lia)] at h2
            exact s45 _ _ (hp j b' pr h1 h2)
          · have hjl := (List.getElem?_eq_some_iff.mp h1).1
            rw [List.length_append, lb, List.length_singleton] at hjl
            have hji : j = i := by lia
            subst hji
            rw [List.getElem?_append_right (by lia), lb, Nat.sub_self] at h1
            rw [List.getElem?_append_right (by lia), show j - prs.length = 0 by lia] at h2
            cases h1; cases h2
            exact e5
        rcases hback with h | h
        · rw [h]; exact hG5
        · rw [h] at hG5; cases hG5
    rintro ys σ G4 ⟨z, bt, prt, rfl, sG4, eG4, rfl, lbt, DT4, hpt⟩
    rw [List.take_of_length_le (by lia)] at DT4
    have hprl := DT4.length
    refine ⟨ac3, bt, prt, rfl, SqL.of eG4, by lia, hpt, fun td G5 nG5 sG5 etd _ => ?_⟩
    have DT5 := (DT4.mono sG5).merge .nil (by rw [List.nil_append, hik]; exact hnd)
    rw [List.nil_append] at DT5
    generalize mergeK [] prt = kvt at *
    have s05 := s03.trans (sG4.trans sG5)
    have hutd : td ≠ ud := fun z => by
      have := rd_mono hu (s03.trans sG4)
      rw [← z] at this
      rcases this with z | ⟨o, z⟩ <;> rw [nG5] at z <;> cases z
    have hu0 := hu
    have hu := rd_mono hu s05
    clear eG1 eG2 eG3 eG4 ha1 ha2 ha3 sG1 sG2 sG3 sG4 s02 s03 etr1 etr3 hpt DT4
    -- the kids
    refine ⟨_, rfl, ud, _, rfl, hu, fun ob J1 e1 s1 acc ha => ?_⟩
    have hud : ud ≠ acc := fun z => by rw [z, ha] at e1; cases e1
    refine comp_dict (kvs := upsL t none) (fun i ys σ H' => ∃ (z : Option V) (bs ls : List Addr), σ = [z] ∧ ys = bs.map V.ref ∧ Kc J1 H' acc t i bs ls) ⟨none, [], [], rfl, rfl, Kc.zero ha⟩ (fun i ys σ H' ⟨_, _, _, _, _, W⟩ => W.s _ _ e1) ?_ ?_
    · rintro i ys k x σ J2 hk hi ⟨z, bs, ls, rfl, rfl, W⟩
      obtain ⟨c, hc, rfl⟩ := pre_at hk
      refine ⟨_, rfl, (show 0 ≤ sizeLine by decide), fun l J3 n3 s3 e3 _ => ?_⟩
      refine ⟨(show 2 ≤ sizeLine by decide), fun b J4 n4 s4 e4 _ => ?_⟩
      refine cpost ((s3.trans s4) _ _ W.e) (sizeBig (by rw [List.length_map, W.lb]; rw [upsL_len] at hi; lia)) hi ?_
      exact ⟨_, bs ++ [b], ls ++ [l], rfl, by rw [List.map_append]; rfl, W.step ha hc n3 s3 e3 n4 s4 e4⟩
    rintro ys σ J2 ⟨z, bs, ls, rfl, rfl, W⟩
    refine ⟨acc, bs, (pre t).zipWith (fun k l => ((Sum.inl k : Key), V.ref l)) ls, rfl, SqL.of W.e, W.pairs.1, W.pairs.2, fun d J3 n3 s3 e3 _ => ?_⟩
    obtain ⟨A, KA⟩ := W.kh hnd n3 s3 e3
    have hu1 : Rd J1 ud (.dK (upsL t none)) := .inr ⟨ob, e1⟩
    have sHJ : Same (rm ud H) J1 := rm_trans (rm_same.trans s05) s1
    have hdu : d ≠ ud := fun z => by rw [z, W.s _ _ e1] at n3; cases n3
    have etd1 : J1 td = some (.dK kvt) := rm_look s1 etd hutd
    have DT1 : DT J1 kvt (t.io room) := DT.walk DT5 hu s1
    have hut : (upT t).length + 1 = (pre t).length := by rw [pre_ne hne]; simp
    have KB := KA.sub (B' := rm ud J1) rm_same
    have hlkk : ∀ k ∈ t.keys, look (t.io room) k = some (mf room t k) := fun k hk => look_of hik hnd hk
    have told : ∀ {G : Hp} {c : Int}, c ∈ pre t → G td = some (.dK kvt) → DT G kvt (t.io room) → ∃ bm, DGet G td (.int c) (some (.ref bm)) ∧ G bm = some (.tup [.int (mf room t c).1, .int (mf room t c).2]) := fun {G c} hc e D0 => by
      obtain ⟨bm, hv1, hb1⟩ := D0.val (hlkk c (pre_mem.mp hc))
      exact ⟨bm, dget e hv1, hb1⟩
    have hu3 := rd_mono hu1 KA.s
    have DT3 := DT1.mono KA.s
    refine ⟨_, rfl, ud, _, rfl, hu3, fun ob4 H4 e4 s4 => ?_⟩
    have K4 := KB.walk hu3 hdu rm_self s4
    have DT4 := DT.walk DT3 hu3 s4
    have etd4 : H4 td = some (.dK kvt) := rm_look s4 (KA.s _ _ etd1) hutd
    have toB : ∀ {G : Hp} {M}, KH (rm ud J1) G d (pre t) A M → Same (rm ud H) G := fun h x o hx => by
      refine h.s _ _ ?_
      have hxu : x ≠ ud := fun z => by rw [z, rm_self] at hx; cases hx
      rw [rm_ne hxu]; exact sHJ _ _ hx
    refine for_dictN (kvs := upsL t none) (fun i σ H' => ∃ z6 : Option V, σ = [some (.ref ud), some (.int room), some (.ref tr), some (.int number), some (.ref td), some (.ref d), z6] ∧ KH (rm ud J1) H' d (pre t) A (Mf room t i) ∧ H' ud = some (.frz ob4 (.dK (upsL t none))) ∧ H' td = some (.dK kvt) ∧ DT H' kvt (t.io room)) ?_ (fun i σ H' _ hh => by obtain ⟨_, _, _, e', _⟩ := hh; exact e') ?_ ?_
    · have e : Mf room t 0 = fun _ => [] := by funext k; simp [Mf]
      exact ⟨none, rfl, by rw [e]; exact K4, e4, etd4, DT4⟩
    · rintro N B R i k x σ H5 hx hN _ _ ⟨z6, rfl, KI, eu5, et5, D5⟩
      obtain ⟨c, hc, rfl⟩ := pre_at hx
      have hcm := List.mem_of_getElem? hc
      have hu5 : Rd H5 ud (.dK (upsL t none)) := .inr ⟨_, eu5⟩
      rcases up_is hnd hc with ⟨rfl, _, _, hv⟩ | ⟨j, u, rfl, hj, hv⟩
      · refine ⟨_, rfl, _, rfl, ud, .non, rfl, rdget hu5 hv, rfl, _, rfl, ?_⟩
        refine iteF ?_
        exact hN _ _ ⟨_, rfl, KI, eu5, et5, D5⟩
      · refine ⟨_, rfl, _, rfl, ud, .int u, rfl, rdget hu5 hv, rfl, _, rfl, ?_⟩
        refine iteT ?_
        have hum : u ∈ pre t := pre_mem.mpr (upT_up t _ (List.mem_of_getElem? hj)).1
        obtain ⟨bU, wu, eU, gU⟩ := KI.ls u hum
        have hwl := gU.length
        rw [List.length_map] at hwl
        have hMul : (Mf room t (j + 1) u).length ≤ 1000 := by
          unfold Mf
          rw [List.length_map]
          refine Nat.le_trans (List.length_filter_le _ _) ?_
          rw [List.length_take]; lia
        obtain ⟨bm, hg, hb⟩ := told hcm et5 D5
        refine ⟨_, rfl, _, rfl, _, rfl, ud, .int u, rfl, rdget hu5 hv, d, _, rfl, KI.val hum, .inl ⟨rfl, _, SqL.of eU⟩, _, rfl, _, rfl, td, _, rfl, hg, A u, wu, _, rfl, rfl, eU, sizeBig (by lia), ?_⟩
        have ht : (upT t).take (j + 1 + 1 - 1) = (upT t).take (j + 1 - 1) ++ [(c, u)] := by
          rw [show j + 1 + 1 - 1 = j + 1 by lia, show j + 1 - 1 = j by lia, List.take_add_one, hj]; rfl
        have hM1 : Mf room t (j + 1 + 1) u = Mf room t (j + 1) u ++ [mf room t c] := by
          unfold Mf; rw [ht, List.filter_append, List.map_append]; simp
        have hM2 : ∀ k' ∈ pre t, k' ≠ u → Mf room t (j + 1 + 1) k' = Mf room t (j + 1) k' := fun k' _ hk' => by
          unfold Mf; rw [ht, List.filter_append, List.filter_cons_of_neg (by simp [Ne.symm hk']), List.filter_nil, List.append_nil]
        have hAu : ∀ y o, H5 y = some o → (∀ vs, o ≠ .lst vs) → y ≠ A u := fun y o e ho z => by rw [z, eU] at e; exact ho _ (Option.some.inj e).symm
        exact hN _ _ ⟨_, rfl, KI.add hum hb eU hM1 hM2, by rw [upd_ne (hAu _ _ eu5 (fun vs z => nomatch z))]; exact eu5, by rw [upd_ne (hAu _ _ et5 (fun vs z => nomatch z))]; exact et5, D5.upd eU (fun vs z => nomatch z)⟩
    rintro σ H5 ⟨z6, rfl, K5, eu5, et5, D5⟩
    have hM : ∀ k, Mf room t (upsL t none).length k = (kd t k).map (mf room t) := fun k => by
      unfold Mf kd
      rw [upsL_len, ← hpl, List.take_of_length_le (by lia), List.map_map]; rfl
    have hu5 : Rd H5 ud (.dK (upsL t none)) := .inr ⟨_, eu5⟩
    refine ⟨_, rfl, ud, _, rfl, hu5, fun ob6 H6 e6 s6 => ?_⟩
    have K6 := K5.walk hu5 hdu rm_self s6
    have D6 := DT.walk D5 hu5 s6
    have et6 : H6 td = some (.dK kvt) := rm_look s6 et5 hutd
    refine for_dictN (kvs := upsL t none) (fun i σ H' => ∃ z6 : Option V, σ = [some (.ref ud), some (.int room), some (.ref tr), some (.int number), some (.ref td), some (.ref d), z6] ∧ KH (rm ud J1) H' d (pre t) A (Mf room t (upsL t none).length) ∧ H' ud = some (.frz ob6 (.dK (upsL t none))) ∧ H' td = some (.dK kvt) ∧ DT H' kvt (t.io room)) ⟨z6, rfl, K6, e6, et6, D6⟩ (fun i σ H' _ hh => by obtain ⟨_, _, _, e', _⟩ := hh; exact e') ?_ ?_
    · rintro N B R i k x σ H7 hx hN _ _ ⟨z7, rfl, KI, eu7, et7, D7⟩
      obtain ⟨c, hc, rfl⟩ := pre_at hx
      have hcm := List.mem_of_getElem? hc
      obtain ⟨hrule, hk2⟩ := mf_rule (room := room) hnd (pre_mem.mp hcm)
      obtain ⟨bm, hg, hb⟩ := told hcm et7 D7
      obtain ⟨bA, wa, eA, gA⟩ := KI.ls c hcm
      refine ⟨_, rfl, _, rfl, td, _, rfl, hg, _, rfl, _, rfl, d, _, rfl, KI.val hcm, _, rfl, A c, wa, _, room, rfl, eA, gA.mono rm_same, by rw [hM]; simp; lia, fun bb H8 s8 e8 => ?_⟩
      rw [hM, hrule] at e8
      refine ⟨[(mf room t c).1, (mf room t c).2], [(mf room t c).1, (mf room t c).2], SqT.of (s8 _ _ hb), SqT.of e8, _, rfl, ?_⟩
      rw [lex_self]
      refine iteF ?_
      have K8 := KI.mono s8
      have hu8 : Rd H8 ud (.dK (upsL t none)) := .inr ⟨_, s8 _ _ eu7⟩
      have next : N [some (V.ref ud), some (.int room), some (.ref tr), some (.int number), some (.ref td), some (.ref d), some (.int c)] H8 := hN _ _ ⟨_, rfl, K8, s8 _ _ eu7, s8 _ _ et7, D7.mono s8⟩
      rcases up_is hnd hc with ⟨rfl, htop, _, hv⟩ | ⟨j, u, rfl, hj, hv⟩
      · refine ⟨_, rfl, _, rfl, ud, .non, rfl, rdget hu8 hv, rfl, _, rfl, ?_⟩
        refine iteT ?_
        obtain ⟨b8, hg8, hb8⟩ := told hcm (s8 _ _ et7) (D7.mono s8)
        refine ⟨_, rfl, _, rfl, td, .ref b8, rfl, hg8, b8, _, 0, _, rfl, rfl, .inr (SqT.of hb8), atI_nat (j := 0) rfl, _, rfl, _, _, rfl, rfl, _, rfl, ?_⟩
        rw [decide_eq_false (show ¬ (mf room t c).1 < number by rw [htop, mf_top hnd hne]; lia)]
        refine iteF ?_
        exact next
      · refine ⟨_, rfl, _, rfl, ud, .int u, rfl, rdget hu8 hv, rfl, _, rfl, ?_⟩
        refine iteF ?_
        refine iteF ?_
        exact next
    · rintro σ H7 ⟨z7, rfl, KI, eu7, et7, D7⟩
      have hu7 : Rd H7 ud (.dK (upsL t none)) := .inr ⟨_, eu7⟩
      refine ⟨_, rfl, fun em H8 n8 s8 e8 _ => ?_⟩
      refine ⟨ud, em, _, rfl, rfl, rd_mono hu7 s8, e8, ?_⟩
      have hemp : (upsL t none).isEmpty = false := by
        cases t with
        | nil => exact absurd rfl hne
        | node l k r => rfl
      rw [hemp]
      exact q H8 ((toB KI).trans s8) (rd_mono hu7 s8)
end
end K43C
namespace K43C
open PySem L2 L3 K43
noncomputable def apG (h : Int → Nat) (e : Int × Int) : List Int := if h e.2 ≠ h e.1 then [(h e.1 : Int)] else []
theorem apL_some (h : Int → Nat) : ∀ (u : Tr) (a : Int), apL h (some a) u = ((u.key?.map fun c => (c, a)) ++ upT u).flatMap (apG h)
  | .nil, _ => rfl
  | .node l k r, a => by
    rw [apL, apL_some h l k, apL_some h r k, upT]
    simp [apG, Tr.key?]
theorem apL_none (h : Int → Nat) (t : Tr) : apL h none t = (upT t).flatMap (apG h) := by
  cases t with
  | nil => rfl
  | node l k r =>
    rw [apL, apL_some h l k, apL_some h r k, upT]
    simp
noncomputable def apX (h : Int → Nat) (t : Tr) : List (List Int) := [(h (top1 t) : Int)] :: (upT t).map (apG h)
theorem apX_flat (h : Int → Nat) (t : Tr) : (apX h t).flatten = (h (top1 t) : Int) :: apL h none t := by
  rw [apX, List.flatten_cons, apL_none, List.flatMap_def]; rfl
theorem count_nd : ∀ {l : List Int} {a : Int}, l.Nodup → a ∈ l → l.count a = 1
  | [], _, _, h => by cases h
  | x :: l, a, hn, hm => by
    obtain ⟨h1, h2⟩ := List.nodup_cons.mp hn
    by_cases e : x = a
    · subst e
      rw [List.count_cons_self, List.count_eq_zero.mpr h1]
    · rw [List.count_cons_of_ne e]
      exact count_nd h2 (by rcases List.mem_cons.mp hm with z | z; exact absurd z.symm e; exact z)
theorem ix_nat {n j : Nat} (h : j < n) : ixN n (j : Int) = some j := by
  unfold ixN
  simp [h]
theorem count_snoc (l m : List Int) (j : Int) : (l ++ m).count j = l.count j + m.count j := List.count_append
theorem count_single (x j : Int) : [x].count j = if x = j then 1 else 0 := by
  by_cases e : x = j
  · subst e; simp
  · rw [if_neg e, List.count_cons_of_ne e]; rfl
theorem count_one {room : Int} {t : Tr} {L : List (List Int)} (hl : Laid room t L) (hne : t ≠ .nil) {j : Nat} (hj : j < L.length) : (apX (numP L) t).flatten.count (j : Int) = 1 := by
  rw [apX_flat]
  have h1 := apart_range hl hne (so_perm _) (so_sorted _)
  rw [← (so_perm _).count_eq, h1]
  have hn : ((List.range L.length).map fun i : Nat => (i : Int)).Nodup := List.Pairwise.map _ (fun a b hab z => hab (by lia)) List.nodup_range
  have hm : (j : Int) ∈ (List.range L.length).map fun i : Nat => (i : Int) := List.mem_map.mpr ⟨j, List.mem_range.mpr hj, rfl⟩
  exact count_nd hn hm
noncomputable def tsL (L : List (List Int)) (t : Tr) : List Int := ((upT t).filter fun e => decide (numP L e.1 = numP L e.2)).map (·.1)
theorem ts_pt {t : Tr} (hne : t ≠ .nil) (hn : t.keys.Nodup) (L : List (List Int)) {e : Int × Int} (he : e ∈ upT t) : ptT (tsL L t) e.1 = decide (numP L e.1 ≠ numP L e.2) := by
  have hnd : ((upT t).map (·.1)).Nodup := ((upT_perm hne).nodup_iff.mpr hn).of_cons
  have hiff : e.1 ∈ tsL L t ↔ numP L e.1 = numP L e.2 := by
    unfold tsL
    constructor
    · intro h
      obtain ⟨e', he', z⟩ := List.mem_map.mp h
      obtain ⟨h1, h2⟩ := List.mem_filter.mp he'
      have : e' = e := by
        obtain ⟨i, hi, rfl⟩ := List.getElem_of_mem h1
        obtain ⟨j, hj, rfl⟩ := List.getElem_of_mem he
        have := nd_inj hnd (i := i) (j := j) (by simpa using hi) (by simpa using hj) (by simpa using z)
        subst this; rfl
      rw [← this]; exact of_decide_eq_true h2
    · intro h
      exact List.mem_map.mpr ⟨e, List.mem_filter.mpr ⟨he, decide_eq_true h⟩, rfl⟩
  unfold ptT
  by_cases h : numP L e.1 = numP L e.2
  · rw [decide_eq_true (hiff.mpr h), decide_eq_false (fun z => z h)]; rfl
  · rw [decide_eq_false (fun z => h (hiff.mp z)), decide_eq_true h]; rfl
theorem deep {room : Int} {t : Tr} {L : List (List Int)} (hl : Laid room t L) (hne : t ≠ .nil) {x : Row} (hx : x ∈ RWs (tsL L t) t) : x.2.2 ≤ (t.mark room).1 := by
  have ag := ag_of (numP L) (pid room t) t.keys (fun x hx y hy => hl.home hx hy) room (ptT (tsL L t)) t (top1 t) hl.nd (fun x hx => ⟨hx, rfl⟩) (.inl rfl) (fun e he => ts_pt hne hl.nd L he)
  have h1 := deep_le (ptT (tsL L t)) t (top1 t) 1 x hx
  rw [ag_wd room _ t hne ag] at h1
  unfold lev at h1
  lia
noncomputable def opI (ts : List Int) (t : Tr) (i : Nat) : List (Int × Int) := ((RWs ts t).take i).map fun r => (r.1, r.2.2)
theorem opI_keys {t : Tr} (hne : t ≠ .nil) (ts : List Int) (i : Nat) : (opI ts t i).map (·.1) = (pre t).take i := by
  unfold opI
  rw [List.map_map, pre_ne hne, ← rws_keys hne ts, List.map_take]; rfl
theorem opI_nd {t : Tr} (hne : t ≠ .nil) (hn : t.keys.Nodup) (ts : List Int) (i : Nat) : ((opI ts t i).map (·.1)).Nodup := by
  rw [opI_keys hne]
  exact (pre_nd hn).sublist (List.take_sublist _ _)
theorem opI_new {t : Tr} (hne : t ≠ .nil) (hn : t.keys.Nodup) (ts : List Int) {i : Nat} {c : Int} (h : (pre t)[i]? = some c) : c ∉ (opI ts t i).map (·.1) := by
  rw [opI_keys hne]
  intro hm
  obtain ⟨m, hm⟩ := List.getElem?_of_mem hm
  obtain ⟨hml, _⟩ := List.getElem?_eq_some_iff.mp hm
  rw [List.length_take] at hml
  rw [List.getElem?_take_of_lt (by lia)] at hm
  obtain ⟨a1, a2⟩ := List.getElem?_eq_some_iff.mp hm
  obtain ⟨b1, b2⟩ := List.getElem?_eq_some_iff.mp h
  have := nd_inj (pre_nd hn) a1 b1 (a2.trans b2.symm)
  lia
noncomputable def spLayR : Sp := fun vs H Q _ => ∃ (ud : Addr) (room : Int) (lr : Addr) (bs : List Addr) (L : List (List Int)) (number : Int) (t : Tr), vs = [.ref ud, .int room, .ref lr, .int number] ∧ Rd H ud (.dK (upsL t none)) ∧ t.size ≤ 60 ∧ H lr = some (.lst (bs.map V.ref)) ∧ Pgs H bs L ∧ Laid room t L ∧ 1 ≤ room ∧ (t.mark room).1 ≤ number ∧
  ∀ H', Same (rm ud H) H' → Rd H' ud (.dK (upsL t none)) → Q (.bl true) H'
theorem flat_rep (n : Nat) (x : Int) : (List.replicate n [V.int x]).flatten = (List.replicate n x).map V.int := by
  induction n with
  | zero => rfl
  | succ n ih => rw [List.replicate_succ, List.flatten_cons, ih, List.replicate_succ, List.map_cons]; rfl
theorem spot_val {S : List (Int × Int)} {L : List (List Int)} (hn : (S.map (·.1)).Nodup) (hS : ∀ p ∈ S, p.2 = (numP L p.1 : Int)) {x : Int} (hx : x ∈ S.map (·.1)) : valV (kvI S) (Sum.inl x : Key) = some (.int (numP L x : Int)) := by
  obtain ⟨p, hp, rfl⟩ := List.mem_map.mp hx
  have := val_kv (h := p.1) (n := p.2) hn hp
  rw [this, hS p hp]
structure LW (B H : Hp) (ud sd od hd : Addr) (ob : Obj) (t : Tr) (L : List (List Int)) (S : List (Int × Int)) (i : Nat) (hs : List Int) : Prop where
  s : Same B H
  eu : H ud = some (.frz ob (.dK (upsL t none)))
  es : H sd = some (.dK (kvI S))
  eo : H od = some (.dK (kvI (opI (tsL L t) t i)))
  eh : H hd = some (.lst (hs.map V.int))
  hl : hs.length = L.length
  hc : ∀ j : Nat, j < L.length → hs[j]? = some ((((apX (numP L) t).take i).flatten.count (j : Int) : Nat) : Int)
section
variable {P : Program} {w : World} {K : PySem.W.Frag} {mg : Str → Option Value} {base : Heap}
theorem ok_layR {f : Addr} (F : Fd K mg "_law_layout_right" s_law_layout_right f) (T : Tx K mg) : Cal P w K mg base CX0 1 "_law_layout_right" spLayR := by
  refine F.cal sc_law_layout_right (fun _ _ _ _ _ _ us hl => L3.bind4 (fun _ _ _ _ => rfl) us hl) (fun vs H Q E h => ?_) (fun cdv A outer s H vs Q E hr h => ?_)
  · obtain ⟨ud, room, lr, bs, L, number, t, rfl, _⟩ := h; rfl
  · obtain ⟨ud, room, lr, bs, L, number, t, rfl, hu, hz, el, pg, hl, hroom, hnum, q⟩ := h
    have hgl := pg.len
    have hnd := hl.nd
    have hkl := Tr.keys_length t
    have hfl := hl.flat.length_eq
    rw [hkl] at hfl
    have hpl := pre_len t
    have hLn : L.length ≤ 60 := by
      have h1 : ∀ M : List (List Int), (∀ p ∈ M, 1 ≤ p.length) → M.length ≤ M.flatten.length := fun M => by
        induction M with
        | nil => intro _; exact Nat.le_refl _
        | cons p M ih =>
          intro h
          have h1 := h p (by simp)
          have h2 := ih fun p hp => h p (by simp [hp])
          rw [List.flatten_cons, List.length_append, List.length_cons]; lia
      have := h1 L fun p hp => (page_len hroom hl hp).1
      lia
    have hfn : L.flatten.Nodup := hl.flat.nodup_iff.mpr hnd
    refine ⟨_, (bcons (sset (i := 4) sc_law_layout_right.nd rfl (by first | exact Or.inl rfl | exact Or.inr rfl) qdict)
      (bcons (sfor PassesOwn.never rfl (ienum K rfl T.b_enumerate (qcons (qv 2) qnil)) (gtup (n := 2) K rfl (gscons (gname (i := 5) sc_law_layout_right.nd rfl (by first | exact Or.inl rfl | exact Or.inr rfl)) (gscons (gname (i := 6) sc_law_layout_right.nd rfl (by first | exact Or.inl rfl | exact Or.inr rfl)) gsnil)))
        (bcons (sif (QW.tst (wor (tcmp (rEqq hr) (qv 6) (qlst qnil) (nomark _)) (wor1 (tcmp rGt (qB (fLen K) rfl T.b_len bt_len (qcons (qv 6) qnil)) (qv 1) (nomark _))))) (bone (sret qbl)) bnil)
        (bone (sfor PassesOwn.never rfl (iseq K (qv 6)) (gname (i := 7) sc_law_layout_right.nd rfl (by first | exact Or.inl rfl | exact Or.inr rfl))
          (bcons (sif (QW.tst (wor (tdin hr (qv 7) (qv 4)) (wor1 (tdnotin hr (qv 7) (qv 0))))) (bone (sret qbl)) bnil)
          (bone (sdput hr (qv 4) (qv 7) (qv 5) rfl)))))))
      (bcons (sif (tcmp rLt (qB fLenD rfl T.b_len bt_len (qcons (qv 4) qnil)) (qB fLenD rfl T.b_len bt_len (qcons (qv 0) qnil)) (nomark _)) (bone (sret qbl)) bnil)
      (bcons (sset (i := 8) sc_law_layout_right.nd rfl (by first | exact Or.inl rfl | exact Or.inr rfl) qdict)
      (bcons (sset (i := 9) sc_law_layout_right.nd rfl (by first | exact Or.inl rfl | exact Or.inr rfl) (qop rMulL (qlst (qcons qint qnil)) (qB (fLen K) rfl T.b_len bt_len (qcons (qv 2) qnil))))
      (bcons (sfor PassesOwn.never rfl (idict (qv 0)) (gname (i := 7) sc_law_layout_right.nd rfl (by first | exact Or.inl rfl | exact Or.inr rfl))
        (bcons (sset (i := 10) sc_law_layout_right.nd rfl (by first | exact Or.inl rfl | exact Or.inr rfl) (qdget hr (qv 0) (qv 7) (fun _ _ => rfl)))
        (bcons (sdput hr (qv 8) (qv 7) qint rfl)
        (bcons (sif (tcmp rIsNot (qv 10) qnon (nomark _)) (bone (sdput hr (qv 8) (qv 7) (qop rAdd (qdget hr (qv 8) (qv 10) (fun _ _ => rfl)) (qTy fInt rfl T.b_int bt_int (qcons (qcmp (rNeq hr) (qdget hr (qv 4) (qv 10) (fun _ _ => rfl)) (qdget hr (qv 4) (qv 7) (fun _ _ => rfl)) (nomark _)) qnil))) rfl)) bnil)
        (bcons (sif (QW.tst (wor (tcmp rIs (qv 10) qnon (nomark _)) (wor1 (tcmp (rNeq hr) (qdget hr (qv 4) (qv 10) (fun _ _ => rfl)) (qdget hr (qv 4) (qv 7) (fun _ _ => rfl)) (nomark _))))) (bone (sasg (qop rAdd (qix (xIx K) (qv 9) (qdget hr (qv 4) (qv 7) (fun _ _ => rfl)) (fun _ _ => rfl)) qint) (gsub (qv 9) (qdget hr (qv 4) (qv 7) (fun _ _ => rfl)) xSet))) bnil)
        (bone (sif (tcmp rGt (qdget hr (qv 8) (qv 7) (fun _ _ => rfl)) (qv 3) (nomark _)) (bone (sret qbl)) bnil)))))))
      (bone (sret (qcmp (rEqq hr) (qv 9) (qop rMulL (qlst (qcons qint qnil)) (qB (fLen K) rfl T.b_len bt_len (qcons (qv 2) qnil))) (nomark _)))))))))), ?_⟩
    refine fun sd H1 n1 s1 e1 _ => ?_
    refine ⟨_, rfl, lr, _, rfl, s1 _ _ el, for_enum (xs := bs.map V.ref) (fun i σ H' => ∃ (z5 z6 z7 : Option V) (S : List (Int × Int)), σ = [some (.ref ud), some (.int room), some (.ref lr), some (.int number), some (.ref sd), z5, z6, z7, none, none, none] ∧ Same H H' ∧ H' sd = some (.dK (kvI S)) ∧ S.map (·.1) = (L.take i).flatten ∧ ∀ p ∈ S, p.2 = (numP L p.1 : Int)) ⟨none, none, none, [], rfl, s1, e1, rfl, (fun p hp => by cases hp)⟩ (fun i σ H' _ hh => by obtain ⟨_, _, _, _, _, s', _⟩ := hh; exact s' _ _ el) ?_ ?_⟩
    · rintro i x σ H2 T1 hx ⟨z5, z6, z7, S, rfl, s2, e2, hk2, hv2⟩ hT
      rw [List.getElem?_map] at hx
      obtain ⟨b, hbx, rfl⟩ := Option.map_eq_some_iff.mp hx
      obtain ⟨qi, hqi, eb⟩ := pg.at hbx
      obtain ⟨hq1, hq2⟩ := page_len hroom hl (List.mem_of_getElem? hqi)
      have hil := (List.getElem?_eq_some_iff.mp hqi).1
      have hdT : sd ≠ T1 := fun z => by rw [z, hT] at e2; cases e2
      refine ⟨T1, _, rfl, SqT.of upd_same, rfl, _, _, rfl, _, _, rfl, rfl, ?_⟩
      have s3 : Same H (upd H2 T1 (.tup [.int i, .ref b])) := same_upd s2 (s2.free hT)
      have e3 : upd H2 T1 (.tup [.int i, .ref b]) sd = some (.dK (kvI S)) := by rw [upd_ne hdT]; exact e2
      generalize upd H2 T1 (.tup [.int i, .ref b]) = H3 at *
      refine ⟨_, rfl, (show 0 ≤ sizeLine by decide), fun l4 H4 n4 s4 e4 _ => ?_⟩
      have s34 := s3.trans s4
      refine eq_ints (ys := []) (s34 _ _ eb) e4 ?_
      refine ⟨_, rfl, ?_⟩
      rw [decide_eq_false (show ¬ qi = [] from fun z => by rw [z] at hq1; simp at hq1)]
      refine iteF ?_
      refine ⟨_, rfl, b, _, rfl, .inl (SqL.of (s34 _ _ eb)), _, rfl, _, _, rfl, rfl, _, rfl, ?_⟩
      rw [decide_eq_false (show ¬ room < (((qi.map V.int).length : Nat) : Int) by rw [List.length_map]; lia)]
      refine iteF ?_
      have hsplit : L.flatten = (L.take i).flatten ++ (qi ++ (L.drop (i + 1)).flatten) := by
        have h1 : L = L.take i ++ qi :: L.drop (i + 1) := by
          obtain ⟨h1, h2⟩ := List.getElem?_eq_some_iff.mp hqi
          rw [← h2, List.getElem_cons_drop, List.take_append_drop]
        conv => lhs; rw [h1]
        rw [List.flatten_append, List.flatten_cons]
      refine ⟨_, rfl, b, rfl, .inl ⟨⟨_, SqL.of (s34 _ _ eb)⟩, for_listN (xs := qi.map V.int) (fun j σ H' => ∃ (z7 : Option V) (S : List (Int × Int)), σ = [some (.ref ud), some (.int room), some (.ref lr), some (.int number), some (.ref sd), some (.int (i : Int)), some (.ref b), z7, none, none, none] ∧ Same H H' ∧ H' sd = some (.dK (kvI S)) ∧ S.map (·.1) = (L.take i).flatten ++ qi.take j ∧ ∀ p ∈ S, p.2 = (numP L p.1 : Int))
        ⟨z7, S, rfl, s34, s4 _ _ e3, by rw [List.take_zero, List.append_nil]; exact hk2, hv2⟩ (fun j σ H' _ hh => by obtain ⟨_, _, _, s', _⟩ := hh; exact SqL.of (s' _ _ eb)) ?_ ?_⟩⟩
      · rintro N1 B1 R1 j y σ H5 hy hN1 _ _ ⟨z, S5, rfl, s5, e5, hk5, hv5⟩
        rw [List.getElem?_map] at hy
        obtain ⟨k, hk, rfl⟩ := Option.map_eq_some_iff.mp hy
        have hjl := (List.getElem?_eq_some_iff.mp hk).1
        have hkq : k ∈ qi := List.mem_of_getElem? hk
        have hkL : k ∈ L.flatten := by rw [hsplit]; simp [hkq]
        have hkt : k ∈ t.keys := hl.flat.mem_iff.mp hkL
        have hqs : qi = qi.take j ++ k :: qi.drop (j + 1) := by
          obtain ⟨h1, h2⟩ := List.getElem?_eq_some_iff.mp hk
          rw [← h2, List.getElem_cons_drop, List.take_append_drop]
        have hnew : k ∉ S5.map (·.1) := by
          rw [hk5]
          have h1 := hfn
          rw [hsplit, hqs] at h1
          intro hm
          have h2 : ((L.take i).flatten ++ qi.take j ++ (k :: qi.drop (j + 1) ++ (L.drop (i + 1)).flatten)).Nodup := by simpa [List.append_assoc] using h1
          exact (List.nodup_append.mp h2).2.2 _ hm _ (by simp) rfl
        have hnumk : (i : Int) = (numP L k : Int) := by
          have h1 := (numP_lt hkL).2
          have h2 : k ∈ L.getD i [] := by rw [List.getD_eq_getElem?_getD, hqi]; exact hkq
          rw [numP_uniq hfn h2 h1]
        refine ⟨_, rfl, _, rfl, sd, none, rfl, ?_, _, rfl, ?_⟩
        · have := DGet.k (k := (Sum.inl k : Key)) e5
          rw [val_none hnew] at this
          exact this
        refine iteF ?_
        have hu5 := rd_mono hu s5
        obtain ⟨xv, hxv⟩ : ∃ xv, valV (upsL t none) (Sum.inl k : Key) = some xv := by
          obtain ⟨p, hp⟩ := List.getElem?_of_mem (pre_mem.mpr hkt)
          rcases up_is hnd hp with ⟨_, _, _, h⟩ | ⟨_, _, _, _, h⟩ <;> exact ⟨_, h⟩
        refine ⟨_, rfl, _, rfl, ud, some xv, rfl, rdget hu5 hxv, _, rfl, ?_⟩
        refine iteF ?_
        have hSl : S5.length ≤ 60 := by
          have h1 := congrArg List.length hk5
          rw [List.length_map, List.length_append, List.length_take] at h1
          have h2 := congrArg List.length hsplit
          rw [List.length_append, List.length_append] at h2
          lia
        refine ⟨_, rfl, _, rfl, _, rfl, sd, _, rfl, DPut.k (k := (Sum.inl k : Key)) e5 (sizeBig (by rw [kvI_len]; lia)), ?_⟩
        rw [putI_kv, putI_new hnew]
        refine hN1 _ _ ⟨_, S5 ++ [(k, (i : Int))], rfl, same_upd s5 n1, upd_same, ?_, fun p hp => ?_⟩
        · rw [List.map_append, hk5, List.take_add_one, hk, List.append_assoc]; rfl
        · rcases List.mem_append.mp hp with h | h
          · exact hv5 p h
          · rw [List.mem_singleton] at h; subst h; exact hnumk
      · rintro σ H5 ⟨z, S5, rfl, s5, e5, hk5, hv5⟩
        rw [List.length_map, List.take_length] at hk5
        refine ⟨_, _, _, S5, rfl, s5, e5, ?_, hv5⟩
        rw [hk5, List.take_add_one, hqi, List.flatten_append]; simp
    rintro σ H2 ⟨z5, z6, z7, S, rfl, s2, e2, hk2, hv2⟩
    rw [List.length_map, hgl, List.take_length] at hk2
    have hSl : S.length = t.size := by rw [← hfl, ← hk2, List.length_map]
    have hu2 := rd_mono hu s2
    refine ⟨_, rfl, sd, _, rfl, .inl e2, _, rfl, ud, _, rfl, hu2, _, _, rfl, rfl, _, rfl, ?_⟩
    rw [decide_eq_false (show ¬ (((kvI S).length : Nat) : Int) < (((upsL t none).length : Nat) : Int) by rw [kvI_len, upsL_len]; lia)]
    refine iteF ?_
    refine fun od H3 n3 s3 e3 _ => ?_
    have s03 := s2.trans s3
    refine ⟨(show 1 ≤ sizeLine by decide), fun l4 H4 n4 s4 e4 _ => ?_⟩
    have s04 := s03.trans s4
    refine ⟨_, rfl, lr, _, rfl, .inl (SqL.of (s04 _ _ el)), l4, _, _, rfl, rfl, e4, by lia, by rw [List.length_map]; lia, sizeBig' (by simp; lia), fun hd H5 n5 s5 e5 _ => ?_⟩
    rw [flat_rep, List.length_map, hgl] at e5
    have s05 := s04.trans s5
    have hu5 := rd_mono hu s05
    have hod : od ≠ ud := fun z => by
      rw [z] at n3
      rcases hu2 with z | ⟨o, z⟩ <;> rw [n3] at z <;> cases z
    have hsu : sd ≠ ud := fun z => by
      rw [z] at n1
      rcases hu with z | ⟨o, z⟩ <;> rw [n1] at z <;> cases z
    have hhu : hd ≠ ud := fun z => by
      rw [z] at n5
      rcases rd_mono hu s04 with z | ⟨o, z⟩ <;> rw [n5] at z <;> cases z
    have hso : sd ≠ od := fun z => by rw [z, n3] at e2; cases e2
    refine ⟨_, rfl, ud, _, rfl, hu5, fun ob H6 e6 s6 => ?_⟩
    have Bo : rm ud H od = none := rm_fresh (s2.free n3)
    have Bh : rm ud H hd = none := rm_fresh (s04.free n5)
    have hSn : (S.map (·.1)).Nodup := by rw [hk2]; exact hfn
    have W0 : LW (rm ud H) H6 ud sd od hd ob t L S 0 (List.replicate L.length 0) := by
      refine ⟨rm_trans (rm_same.trans s05) s6, e6, rm_look s6 ((s3.trans (s4.trans s5)) _ _ e2) hsu, rm_look s6 ((s4.trans s5) _ _ e3) hod, ?_, by simp, fun j hj => ?_⟩
      · exact rm_look s6 (by rw [e5]; simp) hhu
      · rw [List.getElem?_replicate, if_pos hj]; simp
    refine for_dictN (kvs := upsL t none) (fun i σ H' => ∃ (z7 z10 : Option V) (hs : List Int), σ = [some (.ref ud), some (.int room), some (.ref lr), some (.int number), some (.ref sd), z5, z6, z7, some (.ref od), some (.ref hd), z10] ∧ LW (rm ud H) H' ud sd od hd ob t L S i hs) ⟨z7, none, _, rfl, W0⟩ (fun i σ H' _ ⟨_, _, _, _, W⟩ => W.eu) ?_ ?_
    · rintro N B R i k x σ H7 hx hN _ _ ⟨y7, y10, hs, rfl, W⟩
      obtain ⟨c, hc, rfl⟩ := pre_at hx
      have hcm := List.mem_of_getElem? hc
      have hck := pre_mem.mp hcm
      have hne : t ≠ .nil := ne_of_mem hck
      have hcl : numP L c < L.length := (numP_lt (hl.flat.mem_iff.mpr hck)).1
      have hu7 : Rd H7 ud (.dK (upsL t none)) := .inr ⟨_, W.eu⟩
      have hnew := opI_new hne hnd (tsL L t) hc
      have hilt : i < (pre t).length := (List.getElem?_eq_some_iff.mp hc).1
      have hol : (opI (tsL L t) t i).length ≤ 60 := by unfold opI; rw [List.length_map, List.length_take]; lia
      have spot : ∀ {G : Hp} {y : Int}, y ∈ t.keys → G sd = some (.dK (kvI S)) → DGet G sd (.int y) (some (.int (numP L y : Int))) := fun {G y} hy e => dget e (spot_val hSn hv2 (by rw [hk2]; exact hl.flat.mem_iff.mpr hy))
      have hnl : (RWs (tsL L t) t).length = (pre t).length := by rw [rws_len hne, pre_ne hne]; simp
      have hRi : (RWs (tsL L t) t)[i]? = some ((RWs (tsL L t) t)[i]'(by lia)) := List.getElem?_eq_getElem _
      have odp : ∀ {G : Hp} {d : Int}, opI (tsL L t) t (i + 1) = opI (tsL L t) t i ++ [(c, d)] → G od = some (.dK (kvI (opI (tsL L t) t (i + 1)))) → DGet G od (.int c) (some (.int d)) := fun {G d} he e => dget e (val_kv (opI_nd hne hnd _ _) (by rw [he]; simp))
      have hcl' : numP L c < hs.length := by rw [W.hl]; exact hcl
      have bump : ∀ j : Nat, j < L.length → (hs.set (numP L c) ((((apX (numP L) t).take i).flatten.count (numP L c : Int) : Nat) + 1 : Int))[j]? = some ((((apX (numP L) t).take i).flatten.count (j : Int) + (if numP L c = j then 1 else 0) : Nat) : Int) := fun j hj => by
        rw [List.getElem?_set]
        by_cases e : numP L c = j
        · subst e
          rw [if_pos rfl, if_pos hcl', if_pos rfl]; rfl
        · rw [if_neg e, if_neg e, W.hc j hj]; rfl
      have hsI : (hs.map V.int)[numP L c]? = some (.int (((apX (numP L) t).take i).flatten.count (numP L c : Int) : Nat)) := by rw [List.getElem?_map, W.hc _ hcl]; rfl
      rcases up_is hnd hc with ⟨rfl, htop, _, hv⟩ | ⟨j, u, rfl, hj, hv⟩
      · have hop : opI (tsL L t) t (0 + 1) = opI (tsL L t) t 0 ++ [(c, 1)] := by
          unfold opI; rw [rws_cons hne, htop]; rfl
        have hax : ∀ j : Nat, ((apX (numP L) t).take (0 + 1)).flatten.count (j : Int) = ((apX (numP L) t).take 0).flatten.count (j : Int) + (if numP L c = j then 1 else 0) := fun j => by
          rw [htop]
          show [((numP L (top1 t) : Nat) : Int)].count (j : Int) = _
          rw [count_single]
          by_cases e : numP L (top1 t) = j
          · rw [if_pos e, if_pos (by lia)]; rfl
          · rw [if_neg e, if_neg (by lia)]; rfl
        refine ⟨_, rfl, _, rfl, ud, .non, rfl, rdget hu7 hv, ?_⟩
        refine ⟨_, rfl, _, rfl, od, _, rfl, DPut.k (k := (Sum.inl c : Key)) W.eo (sizeBig (by rw [kvI_len]; lia)), ?_⟩
        rw [putI_kv, putI_new hnew, ← hop]
        refine ⟨_, rfl, rfl, _, rfl, ?_⟩
        refine iteF ?_
        refine ⟨_, rfl, rfl, _, rfl, ?_⟩
        refine iteT ?_
        have hho : hd ≠ od := fun z => by have := W.eh; rw [z, W.eo] at this; cases this
        have eh1 : upd H7 od (.dK (kvI (opI (tsL L t) t (0 + 1)))) hd = some (.lst (hs.map V.int)) := by rw [upd_ne hho]; exact W.eh
        have es1 : upd H7 od (.dK (kvI (opI (tsL L t) t (0 + 1)))) sd = some (.dK (kvI S)) := by rw [upd_ne hso]; exact W.es
        have eu1 : upd H7 od (.dK (kvI (opI (tsL L t) t (0 + 1)))) ud = some (.frz ob (.dK (upsL t none))) := by rw [upd_ne hod.symm]; exact W.eu
        have eo1 : upd H7 od (.dK (kvI (opI (tsL L t) t (0 + 1)))) od = some (.dK (kvI (opI (tsL L t) t (0 + 1)))) := upd_same
        have sb1 := same_upd (o := .dK (kvI (opI (tsL L t) t (0 + 1)))) W.s Bo
        generalize upd H7 od (.dK (kvI (opI (tsL L t) t (0 + 1)))) = G1 at *
        refine ⟨_, rfl, _, rfl, _, rfl, sd, _, rfl, spot hck es1, hd, _, _, _, rfl, rfl, .inl (SqL.of eh1), atI_nat hsI, _, rfl, _, rfl, _, rfl, sd, _, rfl, spot hck es1, hd, _, _, numP L c, rfl, rfl, eh1, ix_nat (by rw [List.length_map]; exact hcl'), ?_⟩
        have W' : LW (rm ud H) (upd G1 hd (.lst ((hs.map V.int).set (numP L c) (.int ((((apX (numP L) t).take 0).flatten.count (numP L c : Int) : Nat) + 1 : Int))))) ud sd od hd ob t L S (0 + 1) (hs.set (numP L c) ((((apX (numP L) t).take 0).flatten.count (numP L c : Int) : Nat) + 1 : Int)) :=
          ⟨same_upd sb1 Bh, by rw [upd_ne hhu.symm]; exact eu1, by rw [upd_ne (fun z => by rw [z, eh1] at es1; cases es1)]; exact es1, by rw [upd_ne hho.symm]; exact eo1, by rw [List.map_set]; exact upd_same, by rw [List.length_set]; exact W.hl, fun j hj => by rw [bump j hj, hax]⟩
        refine ⟨_, rfl, _, rfl, od, _, rfl, odp hop W'.eo, _, rfl, _, _, rfl, rfl, _, rfl, ?_⟩
        have hdeep : (1 : Int) ≤ (t.mark room).1 := deep hl hne (x := (top1 t, top1 t, 1)) (by rw [rws_cons hne]; exact .head _)
        rw [decide_eq_false (show ¬ number < 1 by lia)]
        refine iteF ?_
        exact hN _ _ ⟨_, _, _, rfl, W'⟩
      · obtain ⟨hu', du, hm, hR⟩ := rws_at hne (tsL L t) hj
        have hpt := ts_pt hne hnd L (List.mem_of_getElem? hj)
        have huk := (upT_up t _ (List.mem_of_getElem? hj)).1
        dsimp only at hpt huk
        rw [hpt] at hR
        have hdeep := deep hl hne (List.mem_of_getElem? hR)
        dsimp only at hdeep
        have hho : hd ≠ od := fun z => by have := W.eh; rw [z, W.eo] at this; cases this
        have hax : ∀ m : Nat, ((apX (numP L) t).take (j + 1 + 1)).flatten.count (m : Int) = ((apX (numP L) t).take (j + 1)).flatten.count (m : Int) + (apG (numP L) (c, u)).count (m : Int) := fun m => by
          have e : (apX (numP L) t)[j + 1]? = some (apG (numP L) (c, u)) := by
            rw [apX, List.getElem?_cons_succ, List.getElem?_map, hj]; rfl
          rw [List.take_add_one, e, List.flatten_append, count_snoc]; simp
        have hmo : (u, du) ∈ opI (tsL L t) t (j + 1) ++ [(c, 1)] := List.mem_append_left _ (List.mem_map.mpr ⟨_, hm, rfl⟩)
        have hn1 : ((opI (tsL L t) t (j + 1) ++ [(c, (1 : Int))]).map (·.1)).Nodup := by
          rw [List.map_append]
          refine List.nodup_append.mpr ⟨opI_nd hne hnd _ _, by simp, fun x1 hx1 y1 hy1 z => ?_⟩
          rw [List.map_cons, List.map_nil, List.mem_singleton] at hy1
          rw [z, hy1] at hx1; exact hnew hx1
        refine ⟨_, rfl, _, rfl, ud, .int u, rfl, rdget hu7 hv, ?_⟩
        refine ⟨_, rfl, _, rfl, od, _, rfl, DPut.k (k := (Sum.inl c : Key)) W.eo (sizeBig (by rw [kvI_len]; lia)), ?_⟩
        rw [putI_kv, putI_new hnew]
        refine ⟨_, rfl, rfl, _, rfl, ?_⟩
        refine iteT ?_
        have es0 : upd H7 od (.dK (kvI (opI (tsL L t) t (j + 1) ++ [(c, 1)]))) sd = some (.dK (kvI S)) := by rw [upd_ne hso]; exact W.es
        refine ⟨_, rfl, _, rfl, od, _, rfl, dget upd_same (val_kv hn1 hmo), _, rfl, _, rfl, sd, _, rfl, spot huk es0, _, rfl, _, rfl, sd, _, rfl, spot hck es0, .inr ⟨_, rfl, ?_⟩⟩
        refine ⟨_, rfl, _, rfl, od, _, rfl, DPut.k (k := (Sum.inl c : Key)) upd_same (sizeBig (by rw [kvI_len, List.length_append]; simp; lia)), ?_⟩
        rw [putI_kv, putI_last hnew]
        have es1 : ∀ X Y, upd (upd H7 od X) od Y sd = some (.dK (kvI S)) := fun X Y => by rw [upd_ne hso, upd_ne hso]; exact W.es
        have eh1 : ∀ X Y, upd (upd H7 od X) od Y hd = some (.lst (hs.map V.int)) := fun X Y => by rw [upd_ne hho, upd_ne hho]; exact W.eh
        have eu1 : ∀ X Y, upd (upd H7 od X) od Y ud = some (.frz ob (.dK (upsL t none))) := fun X Y => by rw [upd_ne hod.symm, upd_ne hod.symm]; exact W.eu
        have sb1 : ∀ X Y, Same (rm ud H) (upd (upd H7 od X) od Y) := fun X Y => same_upd (same_upd W.s Bo) Bo
        by_cases hh : numP L u = numP L c
        · have hhI : ((numP L u : Nat) : Int) = ((numP L c : Nat) : Int) := by lia
          rw [decide_eq_true hhI]
          rw [decide_eq_false (show ¬ numP L c ≠ numP L u from fun z => z hh.symm)] at hR hdeep
          have hop : opI (tsL L t) t (j + 1 + 1) = opI (tsL L t) t (j + 1) ++ [(c, du + 0)] := by
            unfold opI; rw [List.take_add_one, hR, List.map_append]; rfl
          rw [show (opI (tsL L t) t (j + 1) ++ [(c, du + if (!true) = true then (1 : Int) else 0)]) = opI (tsL L t) t (j + 1 + 1) from hop.symm]
          refine ⟨_, rfl, rfl, _, rfl, ?_⟩
          refine iteF ?_
          refine ⟨_, rfl, _, rfl, sd, _, rfl, spot huk (es1 _ _), _, rfl, _, rfl, sd, _, rfl, spot hck (es1 _ _), ?_⟩
          refine ⟨_, rfl, ?_⟩
          rw [decide_eq_true hhI]
          refine iteF ?_
          have W' : LW (rm ud H) (upd (upd H7 od (.dK (kvI (opI (tsL L t) t (j + 1) ++ [(c, 1)])))) od (.dK (kvI (opI (tsL L t) t (j + 1 + 1))))) ud sd od hd ob t L S (j + 1 + 1) hs :=
            ⟨sb1 _ _, eu1 _ _, es1 _ _, upd_same, eh1 _ _, W.hl, fun m hm => by
              rw [W.hc m hm, hax, apG, if_neg (by simp [hh])]; rfl⟩
          refine ⟨_, rfl, _, rfl, od, _, rfl, odp hop W'.eo, _, rfl, _, _, rfl, rfl, _, rfl, ?_⟩
          rw [decide_eq_false (show ¬ number < du + 0 by simp at hdeep; lia)]
          refine iteF ?_
          exact hN _ _ ⟨_, _, _, rfl, W'⟩
        · have hhI : ¬ ((numP L u : Nat) : Int) = ((numP L c : Nat) : Int) := by lia
          rw [decide_eq_false hhI]
          rw [decide_eq_true (show numP L c ≠ numP L u from fun z => hh z.symm)] at hR hdeep
          have hop : opI (tsL L t) t (j + 1 + 1) = opI (tsL L t) t (j + 1) ++ [(c, du + 1)] := by
            unfold opI; rw [List.take_add_one, hR, List.map_append]; rfl
          rw [show (opI (tsL L t) t (j + 1) ++ [(c, du + if (!false) = true then (1 : Int) else 0)]) = opI (tsL L t) t (j + 1 + 1) from hop.symm]
          refine ⟨_, rfl, rfl, _, rfl, ?_⟩
          refine iteF ?_
          refine ⟨_, rfl, _, rfl, sd, _, rfl, spot huk (es1 _ _), _, rfl, _, rfl, sd, _, rfl, spot hck (es1 _ _), ?_⟩
          refine ⟨_, rfl, ?_⟩
          rw [decide_eq_false hhI]
          refine iteT ?_
          refine ⟨_, rfl, _, rfl, _, rfl, sd, _, rfl, spot hck (es1 _ _), hd, _, _, _, rfl, rfl, .inl (SqL.of (eh1 _ _)), atI_nat hsI, _, rfl, _, rfl, _, rfl, sd, _, rfl, spot hck (es1 _ _), hd, _, _, numP L c, rfl, rfl, eh1 _ _, ix_nat (by rw [List.length_map]; exact hcl'), ?_⟩
          have W' : LW (rm ud H) (upd (upd (upd H7 od (.dK (kvI (opI (tsL L t) t (j + 1) ++ [(c, 1)])))) od (.dK (kvI (opI (tsL L t) t (j + 1 + 1))))) hd (.lst ((hs.map V.int).set (numP L c) (.int ((((apX (numP L) t).take (j + 1)).flatten.count (numP L c : Int) : Nat) + 1 : Int))))) ud sd od hd ob t L S (j + 1 + 1) (hs.set (numP L c) ((((apX (numP L) t).take (j + 1)).flatten.count (numP L c : Int) : Nat) + 1 : Int)) :=
            ⟨same_upd (sb1 _ _) Bh, by rw [upd_ne hhu.symm]; exact eu1 _ _, by rw [upd_ne (fun z => by have := W.es; rw [z, W.eh] at this; cases this)]; exact es1 _ _, by rw [upd_ne hho.symm]; exact upd_same, by rw [List.map_set]; exact upd_same, by rw [List.length_set]; exact W.hl, fun m hm => by
              rw [bump m hm, hax, apG, if_pos (show numP L (c, u).2 ≠ numP L (c, u).1 from hh), count_single]
              congr 2
              by_cases e : numP L c = m
              · rw [if_pos e, if_pos (show ((numP L (c, u).1 : Nat) : Int) = (m : Int) by show ((numP L c : Nat) : Int) = _; lia)]
              · rw [if_neg e, if_neg (show ¬ ((numP L (c, u).1 : Nat) : Int) = (m : Int) by show ¬ ((numP L c : Nat) : Int) = _; lia)]⟩
          refine ⟨_, rfl, _, rfl, od, _, rfl, odp hop W'.eo, _, rfl, _, _, rfl, rfl, _, rfl, ?_⟩
          rw [decide_eq_false (show ¬ number < du + 1 by simp at hdeep; lia)]
          refine iteF ?_
          exact hN _ _ ⟨_, _, _, rfl, W'⟩
    · rintro σ H7 ⟨y7, y10, hs, rfl, W⟩
      have hs1 : hs = List.replicate L.length 1 := by
        refine List.ext_getElem (by rw [W.hl]; simp) fun j h1 h2 => ?_
        have hj : j < L.length := by rw [← W.hl]; exact h1
        have hne : t ≠ .nil := fun z => by
          have h3 := hl.len
          rw [z] at h3
          have : (en room .nil).length = 0 := rfl
          lia
        have h3 := W.hc j hj
        rw [List.getElem?_eq_getElem h1, upsL_len, List.take_of_length_le (by rw [apX, List.length_cons, List.length_map]; have := pre_ne hne; have h4 := congrArg List.length this; simp at h4; lia), count_one hl hne hj] at h3
        rw [Option.some.inj h3]; simp
      refine ⟨_, rfl, (show 1 ≤ sizeLine by decide), fun l8 H8 n8 s8 e8 _ => ?_⟩
      have elW : H8 lr = some (.lst (bs.map V.ref)) := s8 _ _ (W.s _ _ (by
        rw [rm_ne (fun z => by rw [z] at el; rcases hu with z | ⟨o, z⟩ <;> rw [z] at el <;> cases el)]; exact el))
      refine ⟨_, rfl, lr, _, rfl, .inl (SqL.of elW), l8, _, _, rfl, rfl, e8, by lia, by rw [List.length_map]; lia, sizeBig' (by simp; lia), fun h9 H9 n9 s9 e9 _ => ?_⟩
      rw [flat_rep, List.length_map, hgl] at e9
      refine eq_ints ((s8.trans s9) _ _ W.eh) (ys := List.replicate L.length 1) (by rw [e9]; simp) ?_
      rw [decide_eq_true hs1]
      have s89 := s8.trans s9
      exact q H9 (W.s.trans s89) (.inr ⟨_, s89 _ _ W.eu⟩)
end
end K43C
namespace K43C
open PySem L2 L3 K43
theorem rows_keep {H G : Hp} (hk : KeepT H G) : ∀ {tb : List (Int × Int × Int)} {vs : List V}, Reps H vs (tb.map rowD) → Reps G vs (tb.map rowD)
  | [], _, h => by cases h; exact .nil
  | e :: tb, _, h => by
    cases h with
    | cons h1 h2 =>
      obtain ⟨b, rfl, eb⟩ := rep_row h1
      exact .cons (.tup (hk _ _ eb) (.cons (.int _) (.cons (.int _) (.cons (.int _) .nil)))) (rows_keep hk h2)
theorem not_tupR {H : Hp} {p : Addr} {kvs : List (Key × V)} (h : Rd H p (.dK kvs)) : ∀ vs, H p ≠ some (.tup vs) := fun vs z => by
  rcases h with h | ⟨o, h⟩ <;> rw [h] at z <;> cases z
theorem not_lstR {H : Hp} {p x : Addr} {kvs : List (Key × V)} {vs : List V} (h : Rd H p (.dK kvs)) (e : H x = some (.lst vs)) : x ≠ p := fun z => by
  rw [z] at e
  rcases h with h | ⟨o, h⟩ <;> rw [h] at e <;> cases e
theorem Pgs.walk {H H' : Hp} {ud : Addr} {kvs : List (Key × V)} {bs : List Addr} {L : List (List Int)} (h : Pgs H bs L) (hu : Rd H ud (.dK kvs)) (s : Same (rm ud H) H') : Pgs H' bs L :=
  h.stay fun b hb => by
    obtain ⟨p, _, e⟩ := h.of hb
    rw [e]; exact rm_look s e (not_lstR hu e)
noncomputable def spRight : Sp := fun vs H Q _ => ∃ (v : V) (ud : Addr) (n : Int) (t : Tr), vs = [v, .ref ud, .int n] ∧ Rep H v t.d ∧ t.ht < 80 ∧ t.size ≤ 60 ∧ t.keys.Pairwise (· < ·) ∧ 1 ≤ n ∧ Rd H ud (.dK (upsL t none)) ∧ ∀ H', Same (rm ud H) H' → Rd H' ud (.dK (upsL t none)) → Q (.bl true) H'
noncomputable def spRef : Sp := fun vs H Q _ => ∃ (v : V) (n : Int) (t : Tr), vs = [v, .int n] ∧ Rep H v t.d ∧ t.ht < 80 ∧ t.size ≤ 60 ∧ t.keys.Nodup ∧ n < 1 ∧ ∀ H', Same H H' → Q (.bl true) H'
structure Er (K : PySem.W.Frag) (mg : Str → Option Value) (cL cM cF cW cX cT cN cH : Addr) : Prop where
  eL : ErrK K mg "LeafError" cL
  eM : ErrK K mg "NoRoom" cM
  eF : mg "Full" = some (.ref cF)
  eW : mg "NoRow" = some (.ref cW)
  eX : mg "NoText" = some (.ref cX)
  eT : mg "NoTree" = some (.ref cT)
  eN : mg "NotThere" = some (.ref cN)
  eH : mg "There" = some (.ref cH)
  ex : PySem.W.exmOne K (.ref cM) (.ref cL) = some true
  k1 : PySem.W.kitAny K (.ref cM) (([cF, cW, cX, cT, cN, cH] : List Addr).map Value.ref) = some false
  k2 : PySem.W.kitOne K (.ref cM) (.ref cM) = some true
  k3 : PySem.W.kitOne K (.ref cM) (.type "ValueError") = some true
  fc : ExcF K cM
structure At (mg : Str → Option Value) (x : Str) (C : Addr) : Prop where
  at_ : mg x = some (.ref C)
section
variable {P : Program} {w : World} {K : PySem.W.Frag} {mg : Str → Option Value} {base : Heap}
theorem ok_ref {f cL cM cF cW cX cT cN cH : Addr} (F : Fd K mg "_law_refused" s_law_refused f) (T : Tx K mg) (R : Er K mg cL cM cF cW cX cT cN cH) (C_least_room : Cal P w K mg base (CXE P w) 85 "least_room" (spLeastR cM)) : Cal P w K mg base CX0 86 "_law_refused" spRef := by
  have R_LeafError := R.eL
  have R_NoRoom := R.eM
  have R_Full : At mg "Full" cF := ⟨R.eF⟩
  have R_NoRow : At mg "NoRow" cW := ⟨R.eW⟩
  have R_NoText : At mg "NoText" cX := ⟨R.eX⟩
  have R_NoTree : At mg "NoTree" cT := ⟨R.eT⟩
  have R_NotThere : At mg "NotThere" cN := ⟨R.eN⟩
  have R_There : At mg "There" cH := ⟨R.eH⟩
  refine F.cal sc_law_refused (fun _ _ _ _ _ _ us hl => L3.bind2 (fun _ _ => rfl) us hl) (fun vs H Q E h => ?_) (fun cdv A outer s H vs Q E hr h => ?_)
  · obtain ⟨v, n, t, rfl, _⟩ := h; rfl
  · obtain ⟨v, n, t, rfl, hv, ht, hz, hnd, hn, q⟩ := h
    refine ⟨_, (bcons (sset (i := 2) sc_law_refused.nd rfl (by first | exact Or.inl rfl | exact Or.inr rfl) qnon)
      (bcons (stry (i := 3) K (xcall C_least_room (hr.mono (by lia)) rfl (qcons (qv 0) (qcons (qv 1) qnil))) rfl R_LeafError.at_ sc_law_refused.nd rfl rfl rfl rfl (fun _ => (bone (sset (i := 2) sc_law_refused.nd rfl (by first | exact Or.inl rfl | exact Or.inr rfl) (qv 3)))))
      (bcons (sif (ttru K (qB (fIsE K) rfl T.b_isinstance bt_isinstance (qcons (qv 2) (qcons (qtup (qcons (qcl rfl R_Full.at_) (qcons (qcl rfl R_NoRow.at_) (qcons (qcl rfl R_NoText.at_) (qcons (qcl rfl R_NoTree.at_) (qcons (qcl rfl R_NotThere.at_) (qcons (qcl rfl R_There.at_) qnil))))))) qnil))) (fun _ => rfl)) (bone (sret qbl)) bnil)
      (bone (sret (qand K (qB (fIsE K) rfl T.b_isinstance bt_isinstance (qcons (qv 2) (qcons (qcl rfl R_NoRoom.at_) qnil))) (qone (qB (fIsE K) rfl T.b_isinstance bt_isinstance (qcons (qv 2) (qcons (qty rfl T.b_ValueError bt_ValueError) qnil)))))))))), ?_⟩
    refine ⟨_, rfl, _, rfl, v, t, n, rfl, hv, ht, hz, hnd, .inr ⟨hn, R.ex, fun ea C e n => ?_⟩⟩
    cases e
    refine ⟨_, rfl, ?_⟩
    have s1 : Same H (upd H ea (excE ea cM)) := same_new n
    have e1 : upd H ea (excE ea cM) ea = some (excE ea cM) := upd_same
    generalize upd H ea (excE ea cM) = H1 at *
    refine ⟨_, rfl, (show 6 ≤ sizeLine by decide), fun tp H2 n2 s2 e2 _ => ?_⟩
    refine ⟨ea, cM, _, rfl, s2 _ _ e1, R.fc, .inr (.inr ⟨tp, [cF, cW, cX, cT, cN, cH], false, rfl, e2, R.k1, ?_⟩)⟩
    refine ⟨false, rfl, ?_⟩
    refine iteF ?_
    refine ⟨_, rfl, ea, cM, _, rfl, s2 _ _ e1, R.fc, .inr (.inl ⟨cM, true, rfl, R.k2, ?_⟩)⟩
    refine ⟨true, rfl, ?_⟩
    refine iteT ?_
    exact ⟨_, rfl, ea, cM, _, rfl, s2 _ _ e1, R.fc, .inl ⟨"ValueError", true, rfl, R.k3, q H2 (s1.trans s2)⟩⟩
theorem ok_right {f cM : Addr} (F : Fd K mg "_law_right" s_law_right f) (T : Tx K mg) (C_least_room : Cal P w K mg base (CXE P w) 85 "least_room" (spLeastR cM)) (C_law_level : Cal P w K mg base CX0 2 "_law_level" spLevel) (C_by_marks : Cal P w K mg base CX0 84 "by_marks" spBy) (C_law_layout_right : Cal P w K mg base CX0 1 "_law_layout_right" spLayR) (C_law_table_right : Cal P w K mg base CX0 2 "_law_table_right" spTabR) (C_shows_worst : Cal P w K mg base CX0 82 "shows_worst" spShown) : Cal P w K mg base CX0 86 "_law_right" spRight := by
  refine F.cal sc_law_right (fun _ _ _ _ _ _ us hl => L3.bind3 (fun _ _ _ => rfl) us hl) (fun vs H Q E h => ?_) (fun cdv A outer s H vs Q E hr h => ?_)
  · obtain ⟨v, ud, n, t, rfl, _⟩ := h; rfl
  · obtain ⟨v, ud, n, t, rfl, hv, hht, hz, hri, hn, hu, q⟩ := h
    have hnd : t.keys.Nodup := hri.imp fun h => Int.ne_of_lt h
    refine ⟨_, (bcons (sset (i := 3) sc_law_right.nd rfl (by first | exact Or.inl rfl | exact Or.inr rfl) (qF C_least_room (hr.mono (by lia)) passN rfl (qcons (qv 0) (qcons (qv 2) qnil))))
      (bcons (sif (QW.tst (wor (tnot (ttru K (qB (fIsi K) rfl T.b_isinstance bt_isinstance (qcons (qv 3) (qcons (qty rfl T.b_tuple bt_tuple) qnil))) (fun _ => rfl))) (wor1 (tcmp (rNeq hr) (qB (fLen K) rfl T.b_len bt_len (qcons (qv 3) qnil)) qint (nomark _))))) (bone (sret qbl)) bnil)
      (bcons (sasg (qv 3) (gtup (n := 3) K rfl (gscons (gname (i := 4) sc_law_right.nd rfl (by first | exact Or.inl rfl | exact Or.inr rfl)) (gscons (gname (i := 5) sc_law_right.nd rfl (by first | exact Or.inl rfl | exact Or.inr rfl)) (gscons (gname (i := 6) sc_law_right.nd rfl (by first | exact Or.inl rfl | exact Or.inr rfl)) gsnil)))))
      (bcons (sif (QW.tst (wor (tnot (ttru K (qB (fIsi K) rfl T.b_isinstance bt_isinstance (qcons (qv 4) (qcons (qty rfl T.b_int bt_int) qnil))) (fun _ => rfl))) (wor (ttru K (qB (fIsi K) rfl T.b_isinstance bt_isinstance (qcons (qv 4) (qcons (qty rfl T.b_bool bt_bool) qnil))) (fun _ => rfl)) (wor1 (tnot (tchain rLe rLe qint (qv 4) qint)))))) (bone (sret qbl)) bnil)
      (bcons (sif (QW.tst (wor (tcmp rGt (qF C_law_level (hr.mono (by lia)) pass0 rfl (qcons (qv 1) (qcons (qv 4) qnil))) (qv 2) (nomark _)) (wor1 (QW.tst (wand (tcmp rGt (qv 4) qint (nomark _)) (wand1 (tcmp rLe (qF C_law_level (hr.mono (by lia)) pass0 rfl (qcons (qv 1) (qcons (qop rSub (qv 4) qint) qnil))) (qv 2) (nomark _)))))))) (bone (sret qbl)) bnil)
      (bcons (sif (QW.tst (wor (tcmp (rNeq hr) (qv 5) (qF C_by_marks (hr.mono (by lia)) pass0 rfl (qcons (qv 0) (qcons (qv 4) qnil))) (nomark _)) (wor1 (tnot (ttru K (qF C_law_layout_right (hr.mono (by lia)) pass0 rfl (qcons (qv 1) (qcons (qv 4) (qcons (qv 5) (qcons (qv 2) qnil))))) (fun _ => rfl)))))) (bone (sret qbl)) bnil)
      (bcons (sif (tcmp (rEqq hr) (qv 4) qint (nomark _)) (bone (sret (qcmp rIs (qv 6) qnon (nomark _)))) bnil)
      (bone (sret (qand K (qF C_law_table_right (hr.mono (by lia)) pass0 rfl (qcons (qv 1) (qcons (qop rSub (qv 4) qint) (qcons (qv 6) (qcons (qop rAdd (qv 2) qint) qnil))))) (qone (qcmp rIsB (qF C_shows_worst (hr.mono (by lia)) pass0 rfl (qcons (qv 0) (qcons (qop rSub (qv 4) qint) (qcons (qv 6) (qcons (qop rAdd (qv 2) qint) qnil))))) qbl (nomark _))))))))))))), ?_⟩
    refine ⟨_, rfl, _, rfl, v, t, n, rfl, hv, hht, hz, hnd, .inl ⟨hn, fun b H1 R lr y bs L s1 eb hL hR nlr elr pg _ _ pm lx hy => ?_⟩⟩
    have hu1 := rd_mono hu s1
    have hR1 := hL.1
    refine ⟨_, rfl, .ref b, _, _, _, rfl, TyOf.tup eb, kit_tuple K (.tup []), ?_⟩
    refine ⟨_, rfl, ?_⟩
    refine iteF ?_
    refine ⟨_, rfl, b, _, rfl, .inr (SqT.of eb), _, rfl, ?_⟩
    refine iteF ?_
    refine ⟨_, rfl, b, _, rfl, SqT.of eb, rfl, _, _, rfl, _, _, rfl, _, _, rfl, rfl, ?_⟩
    refine ⟨_, rfl, .int R, _, _, _, rfl, (Rep.int (H := H1) R).ty, kit_int K (.int R), ?_⟩
    refine ⟨_, rfl, ?_⟩
    refine iteF ?_
    refine ⟨_, rfl, .int R, _, _, _, rfl, (Rep.int (H := H1) R).ty, kit_bool K (.int R), _, rfl, ?_⟩
    refine iteF ?_
    refine ⟨_, rfl, _, _, rfl, rfl, ?_⟩
    refine ⟨_, rfl, ?_⟩
    rw [decide_eq_true hR1]
    refine iteT ?_
    refine ⟨_, _, rfl, rfl, ?_⟩
    refine ⟨_, rfl, ?_⟩
    rw [decide_eq_true (show R ≤ 60 by lia)]
    refine iteF ?_
    -- the levels
    refine ⟨_, rfl, _, rfl, ud, R, t, rfl, hu1, hz, hnd, fun H2 s2 hu2 => ?_⟩
    refine ⟨_, rfl, _, _, rfl, rfl, ?_⟩
    refine ⟨_, rfl, ?_⟩
    rw [decide_eq_false (show ¬ n < (t.mark R).1 by have := hL.2.1; lia)]
    refine iteF ?_
    have k12 := KeepT.rm (not_tupR hu1) s2
    have elr2 := rm_look s2 elr (not_lstR hu1 elr)
    have pg2 := Pgs.walk pg hu1 s2
    have hv2 := tree_keep k12 (hv.mono s1)
    have sH2 : Same (rm ud H) H2 := rm_trans (rm_same.trans s1) s2
    have hy2 : (R = 1 ∧ y = .non) ∨ (1 < R ∧ ∃ (tr : Addr) (ws : List V), y = .ref tr ∧ H2 tr = some (.lst ws) ∧ Reps H2 ws ((t.io (R - 1)).map rowD)) := by
      rcases hy with h | ⟨h1, tr, ws, h2, _, h4, h5⟩
      · exact .inl h
      · exact .inr ⟨h1, tr, ws, h2, rm_look s2 h4 (not_lstR hu1 h4), rows_keep k12 h5⟩
    clear hy k12 pg elr eb
    rcases hy2 with ⟨h1, rfl⟩ | ⟨h1, tr, ws, rfl, etr, gtr⟩
    · refine ⟨_, rfl, _, _, rfl, rfl, _, rfl, ?_⟩
      rw [decide_eq_false (show ¬ 1 < R by lia)]
      refine iteF ?_
      refine ⟨_, rfl, _, rfl, _, rfl, v, t, R, rfl, hv2, hht, hz, hnd, fun r4 H4 bs4 L4 n4 s4 e4 p4 _ _ pm4 lx4 => ?_⟩
      have hLL : L4 = L := lex_one (pm4.trans pm.symm) lx4 lx
      subst hLL
      refine ne_same (Pgs.rep (Pgs.mono pg2 s4) (s4 _ _ elr2)) (p4.rep e4) (Ls_pure _) (Ls_dep _) ?_
      refine ⟨_, rfl, ?_⟩
      refine iteF ?_
      have hu4 := rd_mono hu2 s4
      refine ⟨_, rfl, _, rfl, _, rfl, _, rfl, ud, R, lr, bs, L4, n, t, rfl, hu4, hz, s4 _ _ elr2, Pgs.mono pg2 s4, ⟨pm, hnd⟩, hR1, hL.2.1, fun H5 s5 hu5 => ?_⟩
      refine ⟨_, rfl, ?_⟩
      refine iteF ?_
      have sH5 : Same (rm ud H) H5 := rm_trans (sH2.trans s4) s5
      refine ⟨_, rfl, _, rfl, ?_⟩
      rw [decide_eq_true h1]
      refine iteT ?_
      exact ⟨_, rfl, rfl, q H5 sH5 hu5⟩
    · refine ⟨_, rfl, _, _, rfl, rfl, _, rfl, ?_⟩
      rw [decide_eq_true (show 1 < R by lia)]
      refine iteT ?_
      have hlow := hL.2.2 (R - 1) (by lia) (by lia)
      have hne : t ≠ .nil := fun z => by subst z; have : (Tr.nil).size = 0 := rfl; lia
      refine ⟨_, rfl, _, rfl, _, _, rfl, rfl, ud, R - 1, t, rfl, hu2, hz, hnd, fun H3 s3 hu3 => ?_⟩
      refine ⟨_, rfl, _, _, rfl, rfl, _, rfl, ?_⟩
      rw [decide_eq_false (show ¬ (t.mark (R - 1)).1 ≤ n by lia)]
      refine iteF ?_
      have k23 := KeepT.rm (not_tupR hu2) s3
      have elr3 := rm_look s3 elr2 (not_lstR hu2 elr2)
      have pg3 := Pgs.walk pg2 hu2 s3
      have hv3 := tree_keep k23 hv2
      have etr3 := rm_look s3 etr (not_lstR hu2 etr)
      have gtr3 := rows_keep k23 gtr
      have sH3 : Same (rm ud H) H3 := rm_trans sH2 s3
      refine ⟨_, rfl, _, rfl, _, rfl, v, t, R, rfl, hv3, hht, hz, hnd, fun r4 H4 bs4 L4 n4 s4 e4 p4 _ _ pm4 lx4 => ?_⟩
      have hLL : L4 = L := lex_one (pm4.trans pm.symm) lx4 lx
      subst hLL
      refine ne_same (Pgs.rep (Pgs.mono pg3 s4) (s4 _ _ elr3)) (p4.rep e4) (Ls_pure _) (Ls_dep _) ?_
      refine ⟨_, rfl, ?_⟩
      refine iteF ?_
      have hu4 := rd_mono hu3 s4
      refine ⟨_, rfl, _, rfl, _, rfl, _, rfl, ud, R, lr, bs, L4, n, t, rfl, hu4, hz, s4 _ _ elr3, Pgs.mono pg3 s4, ⟨pm, hnd⟩, hR1, hL.2.1, fun H5 s5 hu5 => ?_⟩
      refine ⟨_, rfl, ?_⟩
      refine iteF ?_
      have sH5 : Same (rm ud H) H5 := rm_trans (sH3.trans s4) s5
      refine ⟨_, rfl, _, rfl, ?_⟩
      rw [decide_eq_false (show ¬ R = 1 by lia)]
      refine iteF ?_
      have k45 := KeepT.rm (not_tupR hu4) s5
      have etr5 := rm_look s5 (s4 _ _ etr3) (not_lstR hu4 (s4 _ _ etr3))
      have gtr5 := rows_keep k45 (gtr3.mono s4)
      have hv5 := tree_keep k45 (hv3.mono s4)
      refine ⟨_, rfl, _, rfl, _, _, rfl, rfl, _, rfl, _, rfl, ud, R - 1, tr, ws, n + 1, t, rfl, hu5, hz, hri, hne, etr5, gtr5, by lia, fun H6 s6 hu6 => ?_⟩
      refine ⟨true, rfl, ?_⟩
      refine iteT ?_
      have k56 := KeepT.rm (not_tupR hu5) s6
      have hil : (t.io (R - 1)).length = t.size := by rw [← Tr.keys_length t, ← Tr.io_keys (R - 1) t, List.length_map]
      refine ⟨_, rfl, _, rfl, _, _, rfl, rfl, _, rfl, _, rfl, v, t, R - 1, tr, ws, t.io (R - 1), n + 1, rfl, tree_keep k56 hv5, hht, by lia, hnd, rm_look s6 etr5 (not_lstR hu5 etr5), rows_keep k56 gtr5, by lia, fun H7 s7 => ?_⟩
      rw [shown_io hnd (by unfold lev; lia) hne]
      exact ⟨true, true, rfl, rfl, q H7 ((rm_trans sH5 s6).trans s7) (rd_mono hu6 s7)⟩
end
end K43C
namespace K43C
open PySem L2 L3 K43
theorem laid_len {room : Int} (hroom : 1 ≤ room) {t : Tr} {L : List (List Int)} (hl : Laid room t L) : L.length ≤ t.size := by
  have h1 : ∀ M : List (List Int), (∀ p ∈ M, 1 ≤ p.length) → M.length ≤ M.flatten.length := fun M => by
    induction M with
    | nil => intro _; exact Nat.le_refl _
    | cons p M ih =>
      intro h
      have h1 := h p (by simp)
      have h2 := ih fun p hp => h p (by simp [hp])
      rw [List.flatten_cons, List.length_append, List.length_cons]; lia
  have := h1 L fun p hp => (page_len hroom hl hp).1
  have h2 := hl.flat.length_eq
  have h3 := Tr.keys_length t
  lia
theorem pen_ne {H : Hp} {p ud : Addr} {kvs : List (Key × V)} (h : Pen3 H p) (hu : Rd H ud (.dK kvs)) : p ≠ ud := by
  obtain ⟨_, _, _, e⟩ := h
  exact not_lstR hu e
noncomputable def two (n : Int) : Tr := .node (.node .nil 5 .nil) (6 + n) .nil
section
variable {P : Program} {w : World} {K : PySem.W.Frag} {mg : Str → Option Value} {base : Heap}
theorem ok_law {f cM : Addr} {fd : FuncData} (F : Fun K "law" "law" s_law f fd) (T : Tx K mg) (C_law_pen : Cal P w K mg base CX0 1 "_law_pen" (spPen K)) (C_law_draw : Cal P w K mg base CX0 1 "_law_draw" spDraw) (C_law_keys : Cal P w K mg base CX0 2 "_law_keys" spKeys) (C_law_tree : Cal P w K mg base CX0 71 "_law_tree" spTree) (C_law_ups : Cal P w K mg base CX0 80 "_law_ups" (spLUps 80)) (C_least_room : Cal P w K mg base (CXE P w) 85 "least_room" (spLeastR cM)) (C_law_right : Cal P w K mg base CX0 86 "_law_right" spRight) (C_law_refused : Cal P w K mg base CX0 86 "_law_refused" spRef) : FnOk P w K mg base CX0 91 f fd ["_law_script"] (spLaw K) := by
  refine okQ F sc_law (fun vs H Q E h => ?_) (fun cdv A outer s H vs Q E hr h => ?_)
  · obtain ⟨a, ns, rfl, _⟩ := h; rfl
  · obtain ⟨a, ns, rfl, ha, hl, q⟩ := h
    refine ⟨_, (bcons (sset (i := 1) sc_law.nd rfl (by first | exact Or.inl rfl | exact Or.inr rfl) (qF C_law_pen (hr.mono (by lia)) pass0 rfl (qcons (qv 0) (qcons qint qnil))))
      (bcons (sset (i := 2) sc_law.nd rfl (by first | exact Or.inl rfl | exact Or.inr rfl) (qF C_law_keys (hr.mono (by lia)) pass0 rfl (qcons (qv 1) (qcons (qF C_law_draw (hr.mono (by lia)) pass0 rfl (qcons (qv 1) (qcons qint qnil))) qnil))))
      (bcons (sset (i := 3) sc_law.nd rfl (by first | exact Or.inl rfl | exact Or.inr rfl) (qF C_law_tree (hr.mono (by lia)) pass0 rfl (qcons (qF C_law_pen (hr.mono (by lia)) pass0 rfl (qcons (qv 0) (qcons qint qnil))) (qcons (qv 2) qnil))))
      (bcons (sset (i := 4) sc_law.nd rfl (by first | exact Or.inl rfl | exact Or.inr rfl) qdict)
      (bcons (sexpr (qF C_law_ups (hr.mono (by lia)) pass0 rfl (qcons (qv 3) (qcons qnon (qcons (qv 4) qnil)))))
      (bcons (sset (i := 1) sc_law.nd rfl (by first | exact Or.inl rfl | exact Or.inr rfl) (qF C_law_pen (hr.mono (by lia)) pass0 rfl (qcons (qv 0) (qcons qint qnil))))
      (bcons (sfor PassesOwn.never rfl (iseq K (qlst (qcons qint (qcons qint (qcons qint (qcons (qop rAdd qint (qF C_law_draw (hr.mono (by lia)) pass0 rfl (qcons (qv 1) (qcons qint qnil)))) (qcons (qop rAdd qint (qF C_law_draw (hr.mono (by lia)) pass0 rfl (qcons (qv 1) (qcons qint qnil)))) (qcons (qop rPow qint qint) qnil)))))))) (gname (i := 5) sc_law.nd rfl (by first | exact Or.inl rfl | exact Or.inr rfl))
        (bcons (sif (tnot (ttru K (qF C_law_right (hr.mono (by lia)) pass0 rfl (qcons (qv 3) (qcons (qv 4) (qcons (qv 5) qnil)))) (fun _ => rfl))) (bone (sret qbl)) bnil)
        (bcons (sset (i := 6) sc_law.nd rfl (by first | exact Or.inl rfl | exact Or.inr rfl) (qF C_least_room (hr.mono (by lia)) passN rfl (qcons (qv 3) (qcons (qv 5) qnil))))
        (bcons (sexpr (qBm K PySem.F.plainAttrs_list PySem.F.slot_list_append PySem.F.type_list_append mAppend (qix (xIx K) (qv 6) qint (fun _ _ => rfl)) (qcons (qlst (qcons qnon qnil)) qnil)))
        (bcons (sif (tcmp rIsNot (qix (xIx K) (qv 6) qint (fun _ _ => rfl)) qnon (nomark _)) (bone (sexpr (qBm0 K PySem.F.plainAttrs_list PySem.F.slot_list_clear PySem.F.type_list_clear mClear (qix (xIx K) (qv 6) qint (fun _ _ => rfl))))) bnil)
        (bcons (sset (i := 7) sc_law.nd rfl (by first | exact Or.inl rfl | exact Or.inr rfl) (qtup (qcons (qtup (qcons qnon (qcons qint (qcons qnon qnil)))) (qcons (qop rAdd qint (qv 5)) (qcons qnon qnil)))))
        (bone (sif (QW.tst (wor (tnot (ttru K (qF C_law_right (hr.mono (by lia)) pass0 rfl (qcons (qv 7) (qcons (qdisp (pcons (qop rAdd qint (qv 5)) qnon (pcons qint (qop rAdd qint (qv 5)) pnil))) (qcons (qv 5) qnil)))) (fun _ => rfl))) (wor1 (tnot (ttru K (qF C_law_right (hr.mono (by lia)) pass0 rfl (qcons (qv 3) (qcons (qv 4) (qcons (qv 5) qnil)))) (fun _ => rfl)))))) (bone (sret qbl)) bnil))))))))
      (bcons (sfor PassesOwn.never rfl (iseq K (qlst (qcons qint (qcons (qun rNeg qint) (qcons (qun rNeg (qop rPow qint qint)) (qcons (qop rSub qint (qF C_law_draw (hr.mono (by lia)) pass0 rfl (qcons (qv 1) (qcons qint qnil)))) qnil)))))) (gname (i := 5) sc_law.nd rfl (by first | exact Or.inl rfl | exact Or.inr rfl))
        (bone (sif (tnot (ttru K (qF C_law_refused (hr.mono (by lia)) pass0 rfl (qcons (qv 3) (qcons (qv 5) qnil))) (fun _ => rfl))) (bone (sret qbl)) bnil)))
      (bone (sret qbl)))))))))), ?_⟩
    refine ⟨_, rfl, a, 0, ns, rfl, ha, hl, by decide, by decide, fun p H1 n1 s1 p1 => ?_⟩
    refine ⟨_, rfl, _, rfl, p, 61, rfl, p1, by decide, by decide, fun r2 H2 r20 r21 p2 s2 => ?_⟩
    refine ⟨p, r2, rfl, p2, r20, by lia, fun a3 H3 xs n3 s3 p3 e3 hr3 hl3 => ?_⟩
    have s03 : Same H H3 := (rm_of s1 n1).trans (rm_trans s2 s3)
    refine ⟨_, rfl, a, 1, ns, rfl, s03.seq ha, hl, by decide, by decide, fun p5 H5 n5 s5 p5' => ?_⟩
    have h35 : a3 ≠ p5 := fun z => by rw [z, n5] at e3; cases e3
    refine ⟨_, rfl, p5, a3, xs, rfl, p5', h35, s5 _ _ e3, hr3, by lia, fun v H6 t s6 p6 g6 k6 => ?_⟩
    have s36 : Same H3 H6 := (rm_of s5 n5).trans s6
    have s06 := s03.trans s36
    have e36 := s36 _ _ e3
    have ho : t.ord none none := ord_of_rise t _ _ (by rw [k6]; exact hr3) (by simp) (by simp)
    have hkl := Tr.keys_length t
    have hz : t.size ≤ 60 := by rw [k6] at hkl; lia
    have hht := Tr.ht_size t
    have nd : t.keys.Nodup := by rw [k6]; exact rise_nodup hr3
    have hxs : xs.length = t.size := by rw [← k6]; exact hkl
    clear s1 s2 s3 s5 s6 s36 e3
    refine fun ud H7 n7 s7 e7 _ => ?_
    have nud : H ud = none := s06.free n7
    refine ⟨_, rfl, _, rfl, v, t, none, ud, [], rfl, g6.mono s7, by lia, e7, by simp; lia, ?_, fun H8 s8 e8 => ?_⟩
    · have := (upsL_perm t none).nodup_iff.mpr (List.Pairwise.map _ (fun a b hab z => hab (by injection z)) nd)
      simpa using this
    rw [List.nil_append] at e8
    have s78 : Same H6 H8 := (rm_of s7 n7).trans s8
    have g8 := g6.mono s78
    have e38 := s78 _ _ e36
    have s08 := s06.trans s78
    have hri : t.keys.Pairwise (· < ·) := by rw [k6]; exact hr3
    refine ⟨_, rfl, a, 2, ns, rfl, s08.seq ha, hl, by decide, by decide, fun pc H9 n9 s9 p9 => ?_⟩
    refine ⟨_, rfl, pc, 6, rfl, p9, by decide, by decide, fun r1 HA r10 r11 pA sA => ?_⟩
    refine ⟨_, rfl, pc, 61, rfl, pA, by decide, by decide, fun r2 HB r20' r21' pB sB => ?_⟩
    refine ⟨_, _, rfl, rfl, ⟨by decide, by decide, by decide⟩, (show 6 ≤ sizeLine by decide), fun ll HC nC sC eC _ => ?_⟩
    have s9B : Same (rm pc H9) HB := rm_trans sA sB
    have toC : Same H8 HC := ((rm_of s9 n9).trans s9B).trans sC
    have gC := g8.mono toC
    have euC := toC _ _ e8
    have pC := pB.mono sC
    have huC : Rd HC ud (.dK (upsL t none)) := .inl euC
    have hlu : ll ≠ ud := not_lstR huC eC
    have ktC : ∀ {G : Hp}, Same (rm ud HC) G → Rep G v t.d := fun s => tree_keep (KeepT.rm (not_tupR huC) s) gC
    refine ⟨ll, rfl, .inl ⟨⟨_, SqL.of eC⟩, for_listN (xs := [.int 1, .int 2, .int 3, .int (1 + r1), .int (1 + r2), .int (10 ^ 59)]) (fun i σ H' => ∃ z5 z6 z7 : Option V, σ = [some (.ref a), some (.ref pc), some (.ref a3), some v, some (.ref ud), z5, z6, z7] ∧ Same (rm ud HC) H' ∧ Rd H' ud (.dK (upsL t none))) ⟨none, none, none, rfl, rm_same, huC⟩ (fun i σ H' _ hh => by obtain ⟨_, _, _, _, s', _⟩ := hh; exact SqL.of (rm_look s' eC hlu)) ?_ ?_⟩⟩
    · rintro N B R i y σ G hy hN _ _ ⟨z5, z6, z7, rfl, sG, huG⟩
      obtain ⟨n, rfl, hn⟩ : ∃ n : Int, y = .int n ∧ 1 ≤ n := by
        have := List.mem_of_getElem? hy
        simp only [List.mem_cons, List.not_mem_nil, or_false] at this
        rcases this with h | h | h | h | h | h
        · exact ⟨_, h, by decide⟩
        · exact ⟨_, h, by decide⟩
        · exact ⟨_, h, by decide⟩
        · exact ⟨_, h, by lia⟩
        · exact ⟨_, h, by lia⟩
        · exact ⟨_, h, by decide⟩
      refine ⟨_, rfl, _, rfl, _, rfl, v, ud, n, t, rfl, ktC sG, by lia, hz, hri, hn, huG, fun G1 s1 hu1 => ?_⟩
      refine ⟨_, rfl, ?_⟩
      refine iteF ?_
      have sG1 : Same (rm ud HC) G1 := rm_trans sG s1
      refine ⟨_, rfl, _, rfl, v, t, n, rfl, ktC sG1, by lia, hz, nd, .inl ⟨hn, fun b G2 R lr yv bs L s2 eb hL hR nlr elr pg _ _ pm lx hyv => ?_⟩⟩
      have hbl : bs.length ≤ 60 := by
        have h1 := laid_len hL.1 (⟨pm, nd⟩ : Laid R t L)
        have h2 := pg.len
        lia
      refine ⟨_, rfl, b, _, 1, _, rfl, rfl, .inr (SqT.of eb), atI_nat (j := 1) rfl, .inl ⟨rfl, _, SqL.of elr⟩, (show 1 ≤ sizeLine by decide), fun nl G3 n3 s3 e3 _ => ?_⟩
      refine ⟨lr, _, _, rfl, rfl, s3 _ _ elr, sizeBig (by rw [List.length_map]; lia), ?_⟩
      have hlrB : (rm ud HC) lr = none := sG1.free nlr
      have hlru : ud ≠ lr := fun z => by
        rw [← z] at nlr
        rcases hu1 with z | ⟨o, z⟩ <;> rw [nlr] at z <;> cases z
      have s4 : Same (rm ud HC) (upd G3 lr (.lst (bs.map V.ref ++ [.ref nl]))) := same_upd (sG1.trans (s2.trans s3)) hlrB
      have hu4 : Rd (upd G3 lr (.lst (bs.map V.ref ++ [.ref nl]))) ud (.dK (upsL t none)) := by
        have := rd_mono hu1 (s2.trans s3)
        rcases this with h | ⟨o, h⟩
        · exact .inl (by rw [upd_ne hlru]; exact h)
        · exact .inr ⟨o, by rw [upd_ne hlru]; exact h⟩
      have eb4 : upd G3 lr (.lst (bs.map V.ref ++ [.ref nl])) b = some (.tup [.int R, .ref lr, yv]) := by
        rw [upd_ne (fun z => by rw [z, elr] at eb; cases eb)]; exact s3 _ _ eb
      have etr : ∀ (tr : Addr) (ws : List V), G2 tr = some (.lst ws) → ∃ xs, upd G3 lr (.lst (bs.map V.ref ++ [.ref nl])) tr = some (.lst xs) := fun tr ws e => by
        by_cases h : tr = lr
        · rw [h]; exact ⟨_, upd_same⟩
        · rw [upd_ne h]; exact ⟨_, s3 _ _ e⟩
      generalize upd G3 lr (.lst (bs.map V.ref ++ [.ref nl])) = G4 at *
      apply join (fun σ' H' => σ' = [some (.ref a), some (.ref pc), some (.ref a3), some v, some (.ref ud), some (.int n), some (.ref b), z7] ∧ Same (rm ud HC) H' ∧ Rd H' ud (.dK (upsL t none)))
      case h2 =>
        intro hj
        refine ⟨_, rfl, b, _, 2, _, rfl, rfl, .inr (SqT.of eb4), atI_nat (j := 2) rfl, rfl, _, rfl, ?_⟩
        rcases hyv with ⟨_, rfl⟩ | ⟨_, tr, ws, rfl, ntr, etr0, _⟩
        · refine iteF ?_
          exact hj _ _ ⟨rfl, s4, hu4⟩
        · refine iteT ?_
          obtain ⟨xs, etr4⟩ := etr tr ws etr0
          refine ⟨_, rfl, b, _, 2, _, rfl, rfl, .inr (SqT.of eb4), atI_nat (j := 2) rfl, .inl ⟨rfl, _, SqL.of etr4⟩, tr, _, rfl, rfl, etr4, ?_⟩
          have htu := not_lstR hu4 etr4
          refine hj _ _ ⟨rfl, same_upd s4 (sG1.free ntr), ?_⟩
          rcases hu4 with h | ⟨o, h⟩
          · exact .inl (by rw [upd_ne htu.symm]; exact h)
          · exact .inr ⟨o, by rw [upd_ne htu.symm]; exact h⟩
      rintro σ G5 ⟨rfl, s5, hu5⟩
      refine ⟨(show 3 ≤ sizeLine by decide), fun c1 G6 n6 s6 e6 _ => ?_⟩
      refine ⟨_, rfl, (show 3 ≤ sizeLine by decide), fun c2 G7 n7' s7' e7' _ => ?_⟩
      have g2 : Rep G7 (.ref c2) (two n).d := .tup e7' (.cons (.tup (s7' _ _ e6) (.cons .non (.cons (.int 5) (.cons .non .nil)))) (.cons (.int _) (.cons .non .nil)))
      have s57 := s6.trans s7'
      refine ⟨_, rfl, fun u2 hu2 => ⟨_, rfl, _, rfl, upd_same, [((Sum.inl (6 + n) : Key), V.non), ((Sum.inl 5 : Key), V.int (6 + n))], rfl, (show 2 ≤ 15 by decide), ?_⟩⟩
      have em : mergeK [] [((Sum.inl (6 + n) : Key), V.non), ((Sum.inl 5 : Key), V.int (6 + n))] = upsL (two n) none := by
        rw [merge_app _ _ (by simp; lia)]; rfl
      rw [em]
      have s8' : Same G7 (upd (upd G7 u2 (.dK [])) u2 (.dK (upsL (two n) none))) := same_upd (same_upd (Same.refl _) hu2) hu2
      have e8' : upd (upd G7 u2 (.dK [])) u2 (.dK (upsL (two n) none)) u2 = some (.dK (upsL (two n) none)) := upd_same
      generalize upd (upd G7 u2 (.dK [])) u2 (.dK (upsL (two n) none)) = G8 at *
      refine ⟨_, rfl, .ref c2, u2, n, two n, rfl, g2.mono s8', by simp [two, Tr.ht], by simp [two, Tr.size], ?_, hn, .inl e8', fun G9 s9' hu9 => ?_⟩
      · show List.Pairwise _ [5, 6 + n]
        simp; lia
      refine ⟨_, rfl, ?_⟩
      refine iteF ?_
      have s79 : Same G7 G9 := fun x o hx => by
        have hxu : x ≠ u2 := fun z => by rw [z, hu2] at hx; cases hx
        exact rm_look s9' (s8' _ _ hx) hxu
      have s59 := s57.trans s79
      have sG9 := s5.trans s59
      refine ⟨_, rfl, _, rfl, _, rfl, v, ud, n, t, rfl, ktC sG9, by lia, hz, hri, hn, rd_mono hu5 s59, fun GA sA' huA => ?_⟩
      refine ⟨_, rfl, ?_⟩
      refine iteF ?_
      exact hN _ _ ⟨_, _, _, rfl, rm_trans sG9 sA', huA⟩
    rintro σ G ⟨z5, z6, z7, rfl, sG, huG⟩
    have hpu := pen_ne pC huC
    have pG : Pen3 G pc := by
      obtain ⟨x1, x2, x3, e⟩ := pC
      exact ⟨x1, x2, x3, rm_look sG e hpu⟩
    have gG := ktC sG
    refine ⟨_, rfl, _, _, rfl, rfl, ⟨by decide, by decide, by decide⟩, _, rfl, _, rfl, pc, 100, rfl, pG, by decide, by decide, fun r3 GB r30 r31 pB' sB' => ?_⟩
    refine ⟨_, _, rfl, rfl, (show 4 ≤ sizeLine by decide), fun l2 GC nC' sC' eC' _ => ?_⟩
    have gC' : Rep GC v t.d := (tree_keep (KeepT.rm (pen3_tup pG) sB') gG).mono sC'
    refine ⟨l2, rfl, .inl ⟨⟨_, SqL.of eC'⟩, for_listN (xs := [.int 0, .int (-1), .int (-(10 ^ 59)), .int (0 - r3)]) (fun i σ H' => ∃ z5 : Option V, σ = [some (.ref a), some (.ref pc), some (.ref a3), some v, some (.ref ud), z5, z6, z7] ∧ Same GC H') ⟨z5, rfl, Same.refl _⟩ (fun i σ H' _ hh => by obtain ⟨_, _, s'⟩ := hh; exact SqL.of (s' _ _ eC')) ?_ ?_⟩⟩
    · rintro N B R i y σ GD hy hN _ _ ⟨y5, rfl, sD⟩
      obtain ⟨n, rfl, hn⟩ : ∃ n : Int, y = .int n ∧ n < 1 := by
        have := List.mem_of_getElem? hy
        simp only [List.mem_cons, List.not_mem_nil, or_false] at this
        rcases this with h | h | h | h
        · exact ⟨_, h, by decide⟩
        · exact ⟨_, h, by decide⟩
        · exact ⟨_, h, by decide⟩
        · exact ⟨_, h, by lia⟩
      refine ⟨_, rfl, _, rfl, v, n, t, rfl, gC'.mono sD, by lia, hz, nd, hn, fun GE sE => ?_⟩
      refine ⟨_, rfl, ?_⟩
      refine iteF ?_
      exact hN _ _ ⟨_, rfl, sD.trans sE⟩
    · rintro σ GD ⟨y5, rfl, sD⟩
      exact q _
end
end K43C
namespace K43C
open PySem L2 L3 K43
theorem all_mk {l : PySem.W.OpenLaw} {w : World} {K : PySem.W.Frag} {h : Heap} {mg : Str → Option Value} {fa : Addr} (X : K.In h) (G : h.Ns mainGlobals mg) (hfa : mg "law" = some (.ref fa))
    {f0 : Addr} {oc0 kV0 dc0 pm0 cd0 ct0 : Value} {od0 an0 : Option Addr} {sl0 : Array (Option Value)}
    {f1 : Addr} {oc1 kV1 dc1 pm1 cd1 ct1 : Value} {od1 an1 : Option Addr} {sl1 : Array (Option Value)}
    {f2 : Addr} {oc2 kV2 dc2 pm2 cd2 ct2 : Value} {od2 an2 : Option Addr} {sl2 : Array (Option Value)}
    {f3 : Addr} {oc3 kV3 dc3 pm3 cd3 ct3 : Value} {od3 an3 : Option Addr} {sl3 : Array (Option Value)}
    {f4 : Addr} {oc4 kV4 dc4 pm4 cd4 ct4 : Value} {od4 an4 : Option Addr} {sl4 : Array (Option Value)}
    {f5 : Addr} {oc5 kV5 dc5 pm5 cd5 ct5 : Value} {od5 an5 : Option Addr} {sl5 : Array (Option Value)}
    {f6 : Addr} {oc6 kV6 dc6 pm6 cd6 ct6 : Value} {od6 an6 : Option Addr} {sl6 : Array (Option Value)}
    {f7 : Addr} {oc7 kV7 dc7 pm7 cd7 ct7 : Value} {od7 an7 : Option Addr} {sl7 : Array (Option Value)}
    {f8 : Addr} {oc8 kV8 dc8 pm8 cd8 ct8 : Value} {od8 an8 : Option Addr} {sl8 : Array (Option Value)}
    {f9 : Addr} {oc9 kV9 dc9 pm9 cd9 ct9 : Value} {od9 an9 : Option Addr} {sl9 : Array (Option Value)}
    {f10 : Addr} {oc10 kV10 dc10 pm10 cd10 ct10 : Value} {od10 an10 : Option Addr} {sl10 : Array (Option Value)}
    {f11 : Addr} {oc11 kV11 dc11 pm11 cd11 ct11 : Value} {od11 an11 : Option Addr} {sl11 : Array (Option Value)}
    {f12 : Addr} {oc12 kV12 dc12 pm12 cd12 ct12 : Value} {od12 an12 : Option Addr} {sl12 : Array (Option Value)}
    {f13 : Addr} {oc13 kV13 dc13 pm13 cd13 ct13 : Value} {od13 an13 : Option Addr} {sl13 : Array (Option Value)}
    {f14 : Addr} {oc14 kV14 dc14 pm14 cd14 ct14 : Value} {od14 an14 : Option Addr} {sl14 : Array (Option Value)}
    {f15 : Addr} {oc15 kV15 dc15 pm15 cd15 ct15 : Value} {od15 an15 : Option Addr} {sl15 : Array (Option Value)}
    {f16 : Addr} {oc16 kV16 dc16 pm16 cd16 ct16 : Value} {od16 an16 : Option Addr} {sl16 : Array (Option Value)}
    {f17 : Addr} {oc17 kV17 dc17 pm17 cd17 ct17 : Value} {od17 an17 : Option Addr} {sl17 : Array (Option Value)}
    {f18 : Addr} {oc18 kV18 dc18 pm18 cd18 ct18 : Value} {od18 an18 : Option Addr} {sl18 : Array (Option Value)}
    {f19 : Addr} {oc19 kV19 dc19 pm19 cd19 ct19 : Value} {od19 an19 : Option Addr} {sl19 : Array (Option Value)}
    {f20 : Addr} {oc20 kV20 dc20 pm20 cd20 ct20 : Value} {od20 an20 : Option Addr} {sl20 : Array (Option Value)}
    {f21 : Addr} {oc21 kV21 dc21 pm21 cd21 ct21 : Value} {od21 an21 : Option Addr} {sl21 : Array (Option Value)}
    {f22 : Addr} {oc22 kV22 dc22 pm22 cd22 ct22 : Value} {od22 an22 : Option Addr} {sl22 : Array (Option Value)}
    {f23 : Addr} {oc23 kV23 dc23 pm23 cd23 ct23 : Value} {od23 an23 : Option Addr} {sl23 : Array (Option Value)}
    {f24 : Addr} {oc24 kV24 dc24 pm24 cd24 ct24 : Value} {od24 an24 : Option Addr} {sl24 : Array (Option Value)}
    {f25 : Addr} {oc25 kV25 dc25 pm25 cd25 ct25 : Value} {od25 an25 : Option Addr} {sl25 : Array (Option Value)}
    {f26 : Addr} {oc26 kV26 dc26 pm26 cd26 ct26 : Value} {od26 an26 : Option Addr} {sl26 : Array (Option Value)}
    (a0 : PySem.W.nsIn K mainGlobals "keys_of" = some (some (.ref f0))) (l0 : K.lookup f0 = some ⟨oc0, od0, .func (PySem.W.fnOf "keys_of" "keys_of" (defArgs s_keys_of) (defBody s_keys_of) (defScope s_keys_of) .none kV0 dc0 pm0 an0 cd0 ct0), sl0⟩) (c0 : PySem.W.codeIn K cd0 "keys_of" = true) (k0 : PySem.W.keepIn K (.ref f0) = true)
    (a1 : PySem.W.nsIn K mainGlobals "with_kids" = some (some (.ref f1))) (l1 : K.lookup f1 = some ⟨oc1, od1, .func (PySem.W.fnOf "with_kids" "with_kids" (defArgs s_with_kids) (defBody s_with_kids) (defScope s_with_kids) .none kV1 dc1 pm1 an1 cd1 ct1), sl1⟩) (c1 : PySem.W.codeIn K cd1 "with_kids" = true) (k1 : PySem.W.keepIn K (.ref f1) = true)
    (a2 : PySem.W.nsIn K mainGlobals "pages_tied" = some (some (.ref f2))) (l2 : K.lookup f2 = some ⟨oc2, od2, .func (PySem.W.fnOf "pages_tied" "pages_tied" (defArgs s_pages_tied) (defBody s_pages_tied) (defScope s_pages_tied) .none kV2 dc2 pm2 an2 cd2 ct2), sl2⟩) (c2 : PySem.W.codeIn K cd2 "pages_tied" = true) (k2 : PySem.W.keepIn K (.ref f2) = true)
    (a3 : PySem.W.nsIn K mainGlobals "mark_from" = some (some (.ref f3))) (l3 : K.lookup f3 = some ⟨oc3, od3, .func (PySem.W.fnOf "mark_from" "mark_from" (defArgs s_mark_from) (defBody s_mark_from) (defScope s_mark_from) .none kV3 dc3 pm3 an3 cd3 ct3), sl3⟩) (c3 : PySem.W.codeIn K cd3 "mark_from" = true) (k3 : PySem.W.keepIn K (.ref f3) = true)
    (a4 : PySem.W.nsIn K mainGlobals "marks_by_key" = some (some (.ref f4))) (l4 : K.lookup f4 = some ⟨oc4, od4, .func (PySem.W.fnOf "marks_by_key" "marks_by_key" (defArgs s_marks_by_key) (defBody s_marks_by_key) (defScope s_marks_by_key) .none kV4 dc4 pm4 an4 cd4 ct4), sl4⟩) (c4 : PySem.W.codeIn K cd4 "marks_by_key" = true) (k4 : PySem.W.keepIn K (.ref f4) = true)
    (a5 : PySem.W.nsIn K mainGlobals "marks" = some (some (.ref f5))) (l5 : K.lookup f5 = some ⟨oc5, od5, .func (PySem.W.fnOf "marks" "marks" (defArgs s_marks) (defBody s_marks) (defScope s_marks) .none kV5 dc5 pm5 an5 cd5 ct5), sl5⟩) (c5 : PySem.W.codeIn K cd5 "marks" = true) (k5 : PySem.W.keepIn K (.ref f5) = true)
    (a6 : PySem.W.nsIn K mainGlobals "tied_pairs" = some (some (.ref f6))) (l6 : K.lookup f6 = some ⟨oc6, od6, .func (PySem.W.fnOf "tied_pairs" "tied_pairs" (defArgs s_tied_pairs) (defBody s_tied_pairs) (defScope s_tied_pairs) .none kV6 dc6 pm6 an6 cd6 ct6), sl6⟩) (c6 : PySem.W.codeIn K cd6 "tied_pairs" = true) (k6 : PySem.W.keepIn K (.ref f6) = true)
    (a7 : PySem.W.nsIn K mainGlobals "by_marks" = some (some (.ref f7))) (l7 : K.lookup f7 = some ⟨oc7, od7, .func (PySem.W.fnOf "by_marks" "by_marks" (defArgs s_by_marks) (defBody s_by_marks) (defScope s_by_marks) .none kV7 dc7 pm7 an7 cd7 ct7), sl7⟩) (c7 : PySem.W.codeIn K cd7 "by_marks" = true) (k7 : PySem.W.keepIn K (.ref f7) = true)
    (a8 : PySem.W.nsIn K mainGlobals "top_level" = some (some (.ref f8))) (l8 : K.lookup f8 = some ⟨oc8, od8, .func (PySem.W.fnOf "top_level" "top_level" (defArgs s_top_level) (defBody s_top_level) (defScope s_top_level) .none kV8 dc8 pm8 an8 cd8 ct8), sl8⟩) (c8 : PySem.W.codeIn K cd8 "top_level" = true) (k8 : PySem.W.keepIn K (.ref f8) = true)
    (a9 : PySem.W.nsIn K mainGlobals "worst_by_marks" = some (some (.ref f9))) (l9 : K.lookup f9 = some ⟨oc9, od9, .func (PySem.W.fnOf "worst_by_marks" "worst_by_marks" (defArgs s_worst_by_marks) (defBody s_worst_by_marks) (defScope s_worst_by_marks) .none kV9 dc9 pm9 an9 cd9 ct9), sl9⟩) (c9 : PySem.W.codeIn K cd9 "worst_by_marks" = true) (k9 : PySem.W.keepIn K (.ref f9) = true)
    (a10 : PySem.W.nsIn K mainGlobals "shows_worst" = some (some (.ref f10))) (l10 : K.lookup f10 = some ⟨oc10, od10, .func (PySem.W.fnOf "shows_worst" "shows_worst" (defArgs s_shows_worst) (defBody s_shows_worst) (defScope s_shows_worst) .none kV10 dc10 pm10 an10 cd10 ct10), sl10⟩) (c10 : PySem.W.codeIn K cd10 "shows_worst" = true) (k10 : PySem.W.keepIn K (.ref f10) = true)
    (a11 : PySem.W.nsIn K mainGlobals "least_room" = some (some (.ref f11))) (l11 : K.lookup f11 = some ⟨oc11, od11, .func (PySem.W.fnOf "least_room" "least_room" (defArgs s_least_room) (defBody s_least_room) (defScope s_least_room) .none kV11 dc11 pm11 an11 cd11 ct11), sl11⟩) (c11 : PySem.W.codeIn K cd11 "least_room" = true) (k11 : PySem.W.keepIn K (.ref f11) = true)
    (a12 : PySem.W.nsIn K mainGlobals "_law_pen" = some (some (.ref f12))) (l12 : K.lookup f12 = some ⟨oc12, od12, .func (PySem.W.fnOf "_law_pen" "_law_pen" (defArgs s_law_pen) (defBody s_law_pen) (defScope s_law_pen) .none kV12 dc12 pm12 an12 cd12 ct12), sl12⟩) (c12 : PySem.W.codeIn K cd12 "_law_pen" = true) (k12 : PySem.W.keepIn K (.ref f12) = true)
    (a13 : PySem.W.nsIn K mainGlobals "_law_draw" = some (some (.ref f13))) (l13 : K.lookup f13 = some ⟨oc13, od13, .func (PySem.W.fnOf "_law_draw" "_law_draw" (defArgs s_law_draw) (defBody s_law_draw) (defScope s_law_draw) .none kV13 dc13 pm13 an13 cd13 ct13), sl13⟩) (c13 : PySem.W.codeIn K cd13 "_law_draw" = true) (k13 : PySem.W.keepIn K (.ref f13) = true)
    (a14 : PySem.W.nsIn K mainGlobals "_law_put" = some (some (.ref f14))) (l14 : K.lookup f14 = some ⟨oc14, od14, .func (PySem.W.fnOf "_law_put" "_law_put" (defArgs s_law_put) (defBody s_law_put) (defScope s_law_put) .none kV14 dc14 pm14 an14 cd14 ct14), sl14⟩) (c14 : PySem.W.codeIn K cd14 "_law_put" = true) (k14 : PySem.W.keepIn K (.ref f14) = true)
    (a15 : PySem.W.nsIn K mainGlobals "_law_keys" = some (some (.ref f15))) (l15 : K.lookup f15 = some ⟨oc15, od15, .func (PySem.W.fnOf "_law_keys" "_law_keys" (defArgs s_law_keys) (defBody s_law_keys) (defScope s_law_keys) .none kV15 dc15 pm15 an15 cd15 ct15), sl15⟩) (c15 : PySem.W.codeIn K cd15 "_law_keys" = true) (k15 : PySem.W.keepIn K (.ref f15) = true)
    (a16 : PySem.W.nsIn K mainGlobals "_law_low" = some (some (.ref f16))) (l16 : K.lookup f16 = some ⟨oc16, od16, .func (PySem.W.fnOf "_law_low" "_law_low" (defArgs s_law_low) (defBody s_law_low) (defScope s_law_low) .none kV16 dc16 pm16 an16 cd16 ct16), sl16⟩) (c16 : PySem.W.codeIn K cd16 "_law_low" = true) (k16 : PySem.W.keepIn K (.ref f16) = true)
    (a17 : PySem.W.nsIn K mainGlobals "_law_tree" = some (some (.ref f17))) (l17 : K.lookup f17 = some ⟨oc17, od17, .func (PySem.W.fnOf "_law_tree" "_law_tree" (defArgs s_law_tree) (defBody s_law_tree) (defScope s_law_tree) .none kV17 dc17 pm17 an17 cd17 ct17), sl17⟩) (c17 : PySem.W.codeIn K cd17 "_law_tree" = true) (k17 : PySem.W.keepIn K (.ref f17) = true)
    (a18 : PySem.W.nsIn K mainGlobals "_law_ups" = some (some (.ref f18))) (l18 : K.lookup f18 = some ⟨oc18, od18, .func (PySem.W.fnOf "_law_ups" "_law_ups" (defArgs s_law_ups) (defBody s_law_ups) (defScope s_law_ups) .none kV18 dc18 pm18 an18 cd18 ct18), sl18⟩) (c18 : PySem.W.codeIn K cd18 "_law_ups" = true) (k18 : PySem.W.keepIn K (.ref f18) = true)
    (a19 : PySem.W.nsIn K mainGlobals "_law_mark" = some (some (.ref f19))) (l19 : K.lookup f19 = some ⟨oc19, od19, .func (PySem.W.fnOf "_law_mark" "_law_mark" (defArgs s_law_mark) (defBody s_law_mark) (defScope s_law_mark) .none kV19 dc19 pm19 an19 cd19 ct19), sl19⟩) (c19 : PySem.W.codeIn K cd19 "_law_mark" = true) (k19 : PySem.W.keepIn K (.ref f19) = true)
    (a20 : PySem.W.nsIn K mainGlobals "_law_level" = some (some (.ref f20))) (l20 : K.lookup f20 = some ⟨oc20, od20, .func (PySem.W.fnOf "_law_level" "_law_level" (defArgs s_law_level) (defBody s_law_level) (defScope s_law_level) .none kV20 dc20 pm20 an20 cd20 ct20), sl20⟩) (c20 : PySem.W.codeIn K cd20 "_law_level" = true) (k20 : PySem.W.keepIn K (.ref f20) = true)
    (a21 : PySem.W.nsIn K mainGlobals "_law_is_row" = some (some (.ref f21))) (l21 : K.lookup f21 = some ⟨oc21, od21, .func (PySem.W.fnOf "_law_is_row" "_law_is_row" (defArgs s_law_is_row) (defBody s_law_is_row) (defScope s_law_is_row) .none kV21 dc21 pm21 an21 cd21 ct21), sl21⟩) (c21 : PySem.W.codeIn K cd21 "_law_is_row" = true) (k21 : PySem.W.keepIn K (.ref f21) = true)
    (a22 : PySem.W.nsIn K mainGlobals "_law_table_right" = some (some (.ref f22))) (l22 : K.lookup f22 = some ⟨oc22, od22, .func (PySem.W.fnOf "_law_table_right" "_law_table_right" (defArgs s_law_table_right) (defBody s_law_table_right) (defScope s_law_table_right) .none kV22 dc22 pm22 an22 cd22 ct22), sl22⟩) (c22 : PySem.W.codeIn K cd22 "_law_table_right" = true) (k22 : PySem.W.keepIn K (.ref f22) = true)
    (a23 : PySem.W.nsIn K mainGlobals "_law_layout_right" = some (some (.ref f23))) (l23 : K.lookup f23 = some ⟨oc23, od23, .func (PySem.W.fnOf "_law_layout_right" "_law_layout_right" (defArgs s_law_layout_right) (defBody s_law_layout_right) (defScope s_law_layout_right) .none kV23 dc23 pm23 an23 cd23 ct23), sl23⟩) (c23 : PySem.W.codeIn K cd23 "_law_layout_right" = true) (k23 : PySem.W.keepIn K (.ref f23) = true)
    (a24 : PySem.W.nsIn K mainGlobals "_law_right" = some (some (.ref f24))) (l24 : K.lookup f24 = some ⟨oc24, od24, .func (PySem.W.fnOf "_law_right" "_law_right" (defArgs s_law_right) (defBody s_law_right) (defScope s_law_right) .none kV24 dc24 pm24 an24 cd24 ct24), sl24⟩) (c24 : PySem.W.codeIn K cd24 "_law_right" = true) (k24 : PySem.W.keepIn K (.ref f24) = true)
    (a25 : PySem.W.nsIn K mainGlobals "_law_refused" = some (some (.ref f25))) (l25 : K.lookup f25 = some ⟨oc25, od25, .func (PySem.W.fnOf "_law_refused" "_law_refused" (defArgs s_law_refused) (defBody s_law_refused) (defScope s_law_refused) .none kV25 dc25 pm25 an25 cd25 ct25), sl25⟩) (c25 : PySem.W.codeIn K cd25 "_law_refused" = true) (k25 : PySem.W.keepIn K (.ref f25) = true)
    (a26 : PySem.W.nsIn K mainGlobals "law" = some (some (.ref f26))) (l26 : K.lookup f26 = some ⟨oc26, od26, .func (PySem.W.fnOf "law" "law" (defArgs s_law) (defBody s_law) (defScope s_law) .none kV26 dc26 pm26 an26 cd26 ct26), sl26⟩) (c26 : PySem.W.codeIn K cd26 "law" = true) (k26 : PySem.W.keepIn K (.ref f26) = true)
    (z_ValueError : PySem.W.nsIn K mainGlobals "ValueError" = some none) (z_all : PySem.W.nsIn K mainGlobals "all" = some none) (z_bool : PySem.W.nsIn K mainGlobals "bool" = some none) (z_dict : PySem.W.nsIn K mainGlobals "dict" = some none) (z_enumerate : PySem.W.nsIn K mainGlobals "enumerate" = some none) (z_int : PySem.W.nsIn K mainGlobals "int" = some none) (z_isinstance : PySem.W.nsIn K mainGlobals "isinstance" = some none) (z_len : PySem.W.nsIn K mainGlobals "len" = some none) (z_list : PySem.W.nsIn K mainGlobals "list" = some none) (z_max : PySem.W.nsIn K mainGlobals "max" = some none) (z_min : PySem.W.nsIn K mainGlobals "min" = some none) (z_range : PySem.W.nsIn K mainGlobals "range" = some none) (z_reversed : PySem.W.nsIn K mainGlobals "reversed" = some none) (z_sorted : PySem.W.nsIn K mainGlobals "sorted" = some none) (z_sum : PySem.W.nsIn K mainGlobals "sum" = some none) (z_tuple : PySem.W.nsIn K mainGlobals "tuple" = some none)
    {cL cM cF cW cX cT cN cH : Addr} (xL : PySem.W.nsIn K mainGlobals "LeafError" = some (some (.ref cL))) (xN : PySem.W.nsIn K mainGlobals "NotThere" = some (some (.ref cN))) (xF : PySem.W.nsIn K mainGlobals "Full" = some (some (.ref cF))) (xM : PySem.W.nsIn K mainGlobals "NoRoom" = some (some (.ref cM))) (xW : PySem.W.nsIn K mainGlobals "NoRow" = some (some (.ref cW))) (xX : PySem.W.nsIn K mainGlobals "NoText" = some (some (.ref cX))) (xT : PySem.W.nsIn K mainGlobals "NoTree" = some (some (.ref cT))) (xH : PySem.W.nsIn K mainGlobals "There" = some (some (.ref cH)))
    (oL : PySem.W.excIn K cL [.type "ValueError", .type "Exception", .type "BaseException", .type "object"] "ValueError.__new__" = true) (oM : PySem.W.excIn K cM [.type "ValueError", .type "Exception", .type "BaseException", .type "object"] "ValueError.__new__" = true) (ex : PySem.W.exmOne K (.ref cM) (.ref cL) = some true) (y1 : PySem.W.kitAny K (.ref cM) (([cF, cW, cX, cT, cN, cH] : List Addr).map Value.ref) = some false) (y2 : PySem.W.kitOne K (.ref cM) (.ref cM) = some true) (y3 : PySem.W.kitOne K (.ref cM) (.type "ValueError") = some true)
    (w1 : PySem.W.findIn K (.ref cM) "__getattribute__" = some (some (.builtin "BaseException.__getattribute__"))) (w7 : PySem.W.findIn K (.ref cM) "__getattr__" = some none) (w8 : PySem.W.mroIn K cM (.type "BaseException") = some true) (w2 : (PySem.W.clsIn K cM).isSome = true) (w3 : PySem.W.findIn K (.ref cM) "__class__" = some (some (.builtin "object.__class__"))) (w4 : PySem.W.specialIn K (.builtin "object.__class__") "__get__" = some (some (.builtin "getset_descriptor.__get__"))) (w5 : PySem.W.takesIn K (.builtin "object.__class__") = some true) (w6 : PySem.W.mroIn K cM (.type "object") = some true) :
    ∃ fd : FuncData, (∀ (s : Shared) (v : Value), BindsTo s fd ⟨[v], []⟩ [("_law_script", v)]) ∧ ∀ base : Heap, K.In base → base.Ns mainGlobals mg → FnOk l.prog w K mg base CX0 91 fa fd ["_law_script"] (spLaw K) := by
  have e := hfa.symm.trans (PySem.W.mg_of X G a26)
  cases e
  have F_keys_of : Fd K mg "keys_of" s_keys_of f0 := fd_mk X G a0 l0 c0 k0
  have F_with_kids : Fd K mg "with_kids" s_with_kids f1 := fd_mk X G a1 l1 c1 k1
  have F_pages_tied : Fd K mg "pages_tied" s_pages_tied f2 := fd_mk X G a2 l2 c2 k2
  have F_mark_from : Fd K mg "mark_from" s_mark_from f3 := fd_mk X G a3 l3 c3 k3
  have F_marks_by_key : Fd K mg "marks_by_key" s_marks_by_key f4 := fd_mk X G a4 l4 c4 k4
  have F_marks : Fd K mg "marks" s_marks f5 := fd_mk X G a5 l5 c5 k5
  have F_tied_pairs : Fd K mg "tied_pairs" s_tied_pairs f6 := fd_mk X G a6 l6 c6 k6
  have F_by_marks : Fd K mg "by_marks" s_by_marks f7 := fd_mk X G a7 l7 c7 k7
  have F_top_level : Fd K mg "top_level" s_top_level f8 := fd_mk X G a8 l8 c8 k8
  have F_worst_by_marks : Fd K mg "worst_by_marks" s_worst_by_marks f9 := fd_mk X G a9 l9 c9 k9
  have F_shows_worst : Fd K mg "shows_worst" s_shows_worst f10 := fd_mk X G a10 l10 c10 k10
  have F_least_room : Fd K mg "least_room" s_least_room f11 := fd_mk X G a11 l11 c11 k11
  have F_law_pen : Fd K mg "_law_pen" s_law_pen f12 := fd_mk X G a12 l12 c12 k12
  have F_law_draw : Fd K mg "_law_draw" s_law_draw f13 := fd_mk X G a13 l13 c13 k13
  have F_law_put : Fd K mg "_law_put" s_law_put f14 := fd_mk X G a14 l14 c14 k14
  have F_law_keys : Fd K mg "_law_keys" s_law_keys f15 := fd_mk X G a15 l15 c15 k15
  have F_law_low : Fd K mg "_law_low" s_law_low f16 := fd_mk X G a16 l16 c16 k16
  have F_law_tree : Fd K mg "_law_tree" s_law_tree f17 := fd_mk X G a17 l17 c17 k17
  have F_law_ups : Fd K mg "_law_ups" s_law_ups f18 := fd_mk X G a18 l18 c18 k18
  have F_law_mark : Fd K mg "_law_mark" s_law_mark f19 := fd_mk X G a19 l19 c19 k19
  have F_law_level : Fd K mg "_law_level" s_law_level f20 := fd_mk X G a20 l20 c20 k20
  have F_law_is_row : Fd K mg "_law_is_row" s_law_is_row f21 := fd_mk X G a21 l21 c21 k21
  have F_law_table_right : Fd K mg "_law_table_right" s_law_table_right f22 := fd_mk X G a22 l22 c22 k22
  have F_law_layout_right : Fd K mg "_law_layout_right" s_law_layout_right f23 := fd_mk X G a23 l23 c23 k23
  have F_law_right : Fd K mg "_law_right" s_law_right f24 := fd_mk X G a24 l24 c24 k24
  have F_law_refused : Fd K mg "_law_refused" s_law_refused f25 := fd_mk X G a25 l25 c25 k25
  have T : Tx K mg := ⟨PySem.W.mg_none_of X G z_ValueError, PySem.W.mg_none_of X G z_all, PySem.W.mg_none_of X G z_bool, PySem.W.mg_none_of X G z_dict, PySem.W.mg_none_of X G z_enumerate, PySem.W.mg_none_of X G z_int, PySem.W.mg_none_of X G z_isinstance, PySem.W.mg_none_of X G z_len, PySem.W.mg_none_of X G z_list, PySem.W.mg_none_of X G z_max, PySem.W.mg_none_of X G z_min, PySem.W.mg_none_of X G z_range, PySem.W.mg_none_of X G z_reversed, PySem.W.mg_none_of X G z_sorted, PySem.W.mg_none_of X G z_sum, PySem.W.mg_none_of X G z_tuple⟩
  refine ⟨PySem.W.fnOf "law" "law" (defArgs s_law) (defBody s_law) (defScope s_law) .none kV26 dc26 pm26 an26 cd26 ct26, fun s v => .of_eq rfl, fun base _ _ => ?_⟩
  have mgo : ∀ {x : Str} {C : Addr}, PySem.W.nsIn K mainGlobals x = some (some (.ref C)) → mg x = some (.ref C) := fun e => PySem.W.mg_of X G e
  have RE : Er K mg cL cM cF cW cX cT cN cH := ⟨⟨mgo xL, oL⟩, ⟨mgo xM, oM⟩, mgo xF, mgo xW, mgo xX, mgo xT, mgo xN, mgo xH, ex, y1, y2, y3, ⟨w1, w7, w8, w2, w3, w4, w5, w6⟩⟩
  have C_draw : Cal l.prog w K mg base CX0 1 "_law_draw" spDraw := ok_draw F_law_draw T
  have C_wk : Cal l.prog w K mg base CX0 80 "with_kids" (spWk 80) := ok_wk F_with_kids T 80
  have C_kof2 : Cal l.prog w K mg base CX0 82 "keys_of" (spKof 82) := ok_kof F_keys_of T 82
  have C_kof : Cal l.prog w K mg base CX0 80 "keys_of" (spKof 80) := ok_kof F_keys_of T 80
  have C_fr : Cal l.prog w K mg base CX0 1 "mark_from" spFrom := ok_from F_mark_from T
  have C_top : Cal l.prog w K mg base CX0 1 "top_level" spTop := ok_top F_top_level T
  have C_bk := ok_byKey F_marks_by_key T C_wk C_fr
  have C_mk := ok_marks F_marks T C_bk C_kof2
  have C_by := ok_by F_by_marks T (ok_tied F_tied_pairs T C_wk) C_bk (ok_pages F_pages_tied T C_wk)
  have C_lr := ok_leastR F_least_room T RE.eM (ok_wbm F_worst_by_marks T C_top C_bk) C_mk C_by
  have C_lm : Cal l.prog w K mg base CX0 1 "_law_mark" spFrom := ok_lmark F_law_mark T
  have C_ri := ok_right F_law_right T C_lr (ok_level F_law_level T C_lm) C_by (ok_layR F_law_layout_right T) (ok_tabR F_law_table_right T (ok_isrow F_law_is_row T) C_lm) (ok_shows F_shows_worst T C_kof C_wk C_fr C_top)
  exact ok_law (fun_mk l26 c26 k26) T (ok_pen F_law_pen T) C_draw (ok_keys F_law_keys T C_draw) (ok_tree F_law_tree T C_draw (ok_low F_law_low T 70) (ok_put F_law_put T 70)) (ok_lups F_law_ups T 80) C_lr C_ri (ok_ref F_law_refused T RE C_lr)
theorem walk {l : PySem.W.OpenLaw} {q : Program} {loose : List Str} {XP : (Str → Option Value) → Heap → Prop} {YP : World → Heap → Prop} {d : DefRec} {K : Params → PySem.W.Frag} (hn : l.most = some 63) (hdf : d.params.defaults = [])
    (hY : ∀ (w : World) (h : Heap), YP w h → (K w.params).In h)
    (F : ∀ (w : World) (mg : Str → Option Value) (fa : Addr) (h : Heap), (K w.params).In h → h.Ns mainGlobals mg → mg d.name = some (.ref fa) →
      ∃ fd : FuncData, (∀ (s : Shared) (u : Value), BindsTo s fd ⟨[u], []⟩ [("_law_script", u)]) ∧ ∀ base : Heap, (K w.params).In base → base.Ns mainGlobals mg → FnOk l.prog w (K w.params) mg base CX0 91 fa fd ["_law_script"] (spLaw (K w.params))) :
    PySem.W.WalkO q loose XP YP l.row.toRowW d [] (fun f vs => PySem.call f vs) :=
  L2.walk_of (n := 63) (k := 91) (x := "_law_script") (CX := fun _ => CX0) (sp := fun w => spLaw (K w.params)) hn (by decide) hdf ⟨rfl, by decide, by decide, rfl⟩ hY F (fun _ _ a ns hl _ hS => ⟨a, ns, rfl, hS, hl, fun _ => rfl⟩) fun _ _ _ _ _ z => z
end K43C
open PySem PySem.W PyProof.Rows
set_option maxRecDepth 100000 in
set_option maxHeartbeats 0 in
theorem PySem.Challenge.cw_leafpages_k43_least_rooms_holds : PySem.Challenge.rw_leafpages_k43_least_rooms.Holds := by
  w_on; o_law; k_head; (case hw => w_witness2)
  k_fill
  refine K43C.walk (l := PySem.Challenge.rw_leafpages_k43_least_rooms) rfl rfl (fun w h Y => PySem.W.kIn_of Y) ?F
  case F =>
    intro w mg fa h KX G hmg
    refine' K43C.all_mk KX G hmg ?a0 ?l0 ?c0 ?k0 ?a1 ?l1 ?c1 ?k1 ?a2 ?l2 ?c2 ?k2 ?a3 ?l3 ?c3 ?k3 ?a4 ?l4 ?c4 ?k4 ?a5 ?l5 ?c5 ?k5 ?a6 ?l6 ?c6 ?k6 ?a7 ?l7 ?c7 ?k7 ?a8 ?l8 ?c8 ?k8 ?a9 ?l9 ?c9 ?k9 ?a10 ?l10 ?c10 ?k10 ?a11 ?l11 ?c11 ?k11 ?a12 ?l12 ?c12 ?k12 ?a13 ?l13 ?c13 ?k13 ?a14 ?l14 ?c14 ?k14 ?a15 ?l15 ?c15 ?k15 ?a16 ?l16 ?c16 ?k16 ?a17 ?l17 ?c17 ?k17 ?a18 ?l18 ?c18 ?k18 ?a19 ?l19 ?c19 ?k19 ?a20 ?l20 ?c20 ?k20 ?a21 ?l21 ?c21 ?k21 ?a22 ?l22 ?c22 ?k22 ?a23 ?l23 ?c23 ?k23 ?a24 ?l24 ?c24 ?k24 ?a25 ?l25 ?c25 ?k25 ?a26 ?l26 ?c26 ?k26 ?z_ValueError ?z_all ?z_bool ?z_dict ?z_enumerate ?z_int ?z_isinstance ?z_len ?z_list ?z_max ?z_min ?z_range ?z_reversed ?z_sorted ?z_sum ?z_tuple ?xL ?xN ?xF ?xM ?xW ?xX ?xT ?xH ?oL ?oM ?ex ?y1 ?y2 ?y3 ?w1 ?w7 ?w8 ?w2 ?w3 ?w4 ?w5 ?w6
    (case a0 => k_is)
    (case l0 => k_is)
    (case c0 => k_is)
    (case k0 => k_is)
    (case a1 => k_is)
    (case l1 => k_is)
    (case c1 => k_is)
    (case k1 => k_is)
    (case a2 => k_is)
    (case l2 => k_is)
    (case c2 => k_is)
    (case k2 => k_is)
    (case a3 => k_is)
    (case l3 => k_is)
    (case c3 => k_is)
    (case k3 => k_is)
    (case a4 => k_is)
    (case l4 => k_is)
    (case c4 => k_is)
    (case k4 => k_is)
    (case a5 => k_is)
    (case l5 => k_is)
    (case c5 => k_is)
    (case k5 => k_is)
    (case a6 => k_is)
    (case l6 => k_is)
    (case c6 => k_is)
    (case k6 => k_is)
    (case a7 => k_is)
    (case l7 => k_is)
    (case c7 => k_is)
    (case k7 => k_is)
    (case a8 => k_is)
    (case l8 => k_is)
    (case c8 => k_is)
    (case k8 => k_is)
    (case a9 => k_is)
    (case l9 => k_is)
    (case c9 => k_is)
    (case k9 => k_is)
    (case a10 => k_is)
    (case l10 => k_is)
    (case c10 => k_is)
    (case k10 => k_is)
    (case a11 => k_is)
    (case l11 => k_is)
    (case c11 => k_is)
    (case k11 => k_is)
    (case a12 => k_is)
    (case l12 => k_is)
    (case c12 => k_is)
    (case k12 => k_is)
    (case a13 => k_is)
    (case l13 => k_is)
    (case c13 => k_is)
    (case k13 => k_is)
    (case a14 => k_is)
    (case l14 => k_is)
    (case c14 => k_is)
    (case k14 => k_is)
    (case a15 => k_is)
    (case l15 => k_is)
    (case c15 => k_is)
    (case k15 => k_is)
    (case a16 => k_is)
    (case l16 => k_is)
    (case c16 => k_is)
    (case k16 => k_is)
    (case a17 => k_is)
    (case l17 => k_is)
    (case c17 => k_is)
    (case k17 => k_is)
    (case a18 => k_is)
    (case l18 => k_is)
    (case c18 => k_is)
    (case k18 => k_is)
    (case a19 => k_is)
    (case l19 => k_is)
    (case c19 => k_is)
    (case k19 => k_is)
    (case a20 => k_is)
    (case l20 => k_is)
    (case c20 => k_is)
    (case k20 => k_is)
    (case a21 => k_is)
    (case l21 => k_is)
    (case c21 => k_is)
    (case k21 => k_is)
    (case a22 => k_is)
    (case l22 => k_is)
    (case c22 => k_is)
    (case k22 => k_is)
    (case a23 => k_is)
    (case l23 => k_is)
    (case c23 => k_is)
    (case k23 => k_is)
    (case a24 => k_is)
    (case l24 => k_is)
    (case c24 => k_is)
    (case k24 => k_is)
    (case a25 => k_is)
    (case l25 => k_is)
    (case c25 => k_is)
    (case k25 => k_is)
    (case a26 => k_is)
    (case l26 => k_is)
    (case c26 => k_is)
    (case k26 => k_is)
    (case z_ValueError => k_is)
    (case z_all => k_is)
    (case z_bool => k_is)
    (case z_dict => k_is)
    (case z_enumerate => k_is)
    (case z_int => k_is)
    (case z_isinstance => k_is)
    (case z_len => k_is)
    (case z_list => k_is)
    (case z_max => k_is)
    (case z_min => k_is)
    (case z_range => k_is)
    (case z_reversed => k_is)
    (case z_sorted => k_is)
    (case z_sum => k_is)
    (case z_tuple => k_is)
    (case xL => k_is)
    (case xN => k_is)
    (case xF => k_is)
    (case xM => k_is)
    (case xW => k_is)
    (case xX => k_is)
    (case xT => k_is)
    (case xH => k_is)
    (case oL => kernel_rfl)
    (case oM => kernel_rfl)
    (case ex => kernel_rfl)
    (case y1 => kernel_rfl)
    (case y2 => kernel_rfl)
    (case y3 => kernel_rfl)
    (case w1 => kernel_rfl)
    (case w7 => kernel_rfl)
    (case w8 => kernel_rfl)
    (case w2 => kernel_rfl)
    (case w3 => kernel_rfl)
    (case w4 => kernel_rfl)
    (case w5 => kernel_rfl)
    (case w6 => kernel_rfl)
