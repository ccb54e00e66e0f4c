import PyProof.Rows.All
import Wide.All
import OpenK.AllK
import Wide.FinOn
import Lean
import PyProof.EqAt
import PyProof.EqKinds
import PyProof.TupleCall
import PyProof.NeKinds
import PyProof.Rows.SumAny
import PyProof.Rows.SortWalk
import PyProof.WalksEnum
import PyProof.AttrMissHeap
import KE.KDictOf
import PyProof.DictWalks
import KE.KRevIter
import PyProof.Rows.SeqMore2
import Wide.Seal
import KE.KDictList
import PyProof.ZipIter
import PyProof.TupleIter
import PyProof.ListMulRoad
import PyProof.TupleOps
import PyProof.FactsAll.tuple
import PyProof.Rows.CallKwBuiltin
import PyProof.WalkInts
import PyProof.DictValues
import KE.KSortTup
import KE.KEqDict
import OpenK.KCell
import KE.KNest
import PyProof.Rows.SetFrom
import PyProof.SetRoads
import PySem.Challenge.RW_leafpages_k36_whole_a_store_read_page_by
set_option Elab.async false
set_option linter.all false
set_option maxRecDepth 100000
set_option maxHeartbeats 4000000
namespace L3
open PySem
theorem lcons {P : List Value → Prop} {n : Nat} (h : ∀ (a : Value) (us : List Value), us.length = n → P (a :: us)) : ∀ us : List Value, us.length = n + 1 → P us := fun us hl => by
  cases us with
  | nil => cases hl
  | cons a us => exact h a us (Nat.succ.inj hl)
theorem lnone {P : List Value → Prop} (h : P []) : ∀ us : List Value, us.length = 0 → P us := fun us hl => by
  cases us with
  | nil => exact h
  | cons a us => cases hl
theorem bind1 {fd : FuncData} {s : Str} (h : ∀ a : Value, bindArgs fd ⟨[a], []⟩ = pure ([s].zip [a])) : ∀ us : List Value, us.length = 1 → bindArgs fd ⟨us, []⟩ = pure ([s].zip us) :=
  lcons (P := fun us => bindArgs fd ⟨us, []⟩ = pure ([s].zip (us))) fun a => lnone (P := fun us => bindArgs fd ⟨a :: us, []⟩ = pure ([s].zip (a :: us))) (h a)
theorem bind2 {fd : FuncData} {s t : Str} (h : ∀ a b : Value, bindArgs fd ⟨[a, b], []⟩ = pure ([s, t].zip [a, b])) : ∀ us : List Value, us.length = 2 → bindArgs fd ⟨us, []⟩ = pure ([s, t].zip us) :=
  lcons (P := fun us => bindArgs fd ⟨us, []⟩ = pure ([s, t].zip (us))) fun a => lcons (P := fun us => bindArgs fd ⟨a :: us, []⟩ = pure ([s, t].zip (a :: us))) fun b => lnone (P := fun us => bindArgs fd ⟨a :: b :: us, []⟩ = pure ([s, t].zip (a :: b :: us))) (h a b)
theorem bind3 {fd : FuncData} {s t u : Str} (h : ∀ a b c : Value, bindArgs fd ⟨[a, b, c], []⟩ = pure ([s, t, u].zip [a, b, c])) : ∀ us : List Value, us.length = 3 → bindArgs fd ⟨us, []⟩ = pure ([s, t, u].zip us) :=
  lcons (P := fun us => bindArgs fd ⟨us, []⟩ = pure ([s, t, u].zip (us))) fun a => lcons (P := fun us => bindArgs fd ⟨a :: us, []⟩ = pure ([s, t, u].zip (a :: us))) fun b => lcons (P := fun us => bindArgs fd ⟨a :: b :: us, []⟩ = pure ([s, t, u].zip (a :: b :: us))) fun c => lnone (P := fun us => bindArgs fd ⟨a :: b :: c :: us, []⟩ = pure ([s, t, u].zip (a :: b :: c :: us))) (h a b c)
theorem bind4 {fd : FuncData} {s t u v : Str} (h : ∀ a b c d : Value, bindArgs fd ⟨[a, b, c, d], []⟩ = pure ([s, t, u, v].zip [a, b, c, d])) : ∀ us : List Value, us.length = 4 → bindArgs fd ⟨us, []⟩ = pure ([s, t, u, v].zip us) :=
  lcons (P := fun us => bindArgs fd ⟨us, []⟩ = pure ([s, t, u, v].zip (us))) fun a => lcons (P := fun us => bindArgs fd ⟨a :: us, []⟩ = pure ([s, t, u, v].zip (a :: us))) fun b => lcons (P := fun us => bindArgs fd ⟨a :: b :: us, []⟩ = pure ([s, t, u, v].zip (a :: b :: us))) fun c => lcons (P := fun us => bindArgs fd ⟨a :: b :: c :: us, []⟩ = pure ([s, t, u, v].zip (a :: b :: c :: us))) fun d => lnone (P := fun us => bindArgs fd ⟨a :: b :: c :: d :: us, []⟩ = pure ([s, t, u, v].zip (a :: b :: c :: d :: us))) (h a b c d)
theorem bind5 {fd : FuncData} {s t u v w : Str} (h : ∀ a b c d e : Value, bindArgs fd ⟨[a, b, c, d, e], []⟩ = pure ([s, t, u, v, w].zip [a, b, c, d, e])) : ∀ us : List Value, us.length = 5 → bindArgs fd ⟨us, []⟩ = pure ([s, t, u, v, w].zip us) :=
  lcons (P := fun us => bindArgs fd ⟨us, []⟩ = pure ([s, t, u, v, w].zip (us))) fun a => lcons (P := fun us => bindArgs fd ⟨a :: us, []⟩ = pure ([s, t, u, v, w].zip (a :: us))) fun b => lcons (P := fun us => bindArgs fd ⟨a :: b :: us, []⟩ = pure ([s, t, u, v, w].zip (a :: b :: us))) fun c => lcons (P := fun us => bindArgs fd ⟨a :: b :: c :: us, []⟩ = pure ([s, t, u, v, w].zip (a :: b :: c :: us))) fun d => lcons (P := fun us => bindArgs fd ⟨a :: b :: c :: d :: us, []⟩ = pure ([s, t, u, v, w].zip (a :: b :: c :: d :: us))) fun e => lnone (P := fun us => bindArgs fd ⟨a :: b :: c :: d :: e :: us, []⟩ = pure ([s, t, u, v, w].zip (a :: b :: c :: d :: e :: us))) (h a b c d e)
end L3
namespace L2
open PySem PySem.Spec PyProof.Rows
noncomputable abbrev Key := Sum Int Str
noncomputable def keyIs : Key → Value → Bool
  | .inl k, v => Value.isInt k v
  | .inr x, v => Value.isStrOf x v
noncomputable def keyH (w : World) : Key → Int
  | .inl k => hashInt k
  | .inr x => hashStr w x
theorem keyIs_shape : ∀ {k : Key} {v : Value}, keyIs k v = true → (∃ i t, k = Sum.inl i ∧ v = Value.int i t) ∨ (∃ x t, k = Sum.inr x ∧ v = Value.str x t)
  | .inl i, v, h => by
    obtain ⟨t, e⟩ := Value.isInt_shape (k := i) (v := v) h
    exact .inl ⟨i, t, rfl, e⟩
  | .inr x, v, h => by
    obtain ⟨t, e⟩ := Value.isStrOf_shape (x := x) (v := v) h
    exact .inr ⟨x, t, rfl, e⟩
theorem keyIs_int (i : Int) (t : Tok) : keyIs (.inl i) (.int i t) = true := by simp [keyIs, Value.isInt]
theorem keyIs_str (x : Str) (t : Tok) : keyIs (.inr x) (.str x t) = true := by simp [keyIs, Value.isStrOf]
theorem key_ll (a b : Int) : decide ((Sum.inl a : Key) = Sum.inl b) = (a == b) := by
  by_cases e : a = b
  · subst e; simp
  · have h : ¬ (Sum.inl a : Key) = Sum.inl b := fun q => e (Sum.inl.inj q)
    rw [decide_eq_false h]
    exact (beq_eq_false_iff_ne.mpr e).symm
theorem key_rr (a b : Str) : decide ((Sum.inr a : Key) = Sum.inr b) = decide (a = b) := by
  by_cases e : a = b
  · subst e; simp
  · have h : ¬ (Sum.inr a : Key) = Sum.inr b := fun q => e (Sum.inr.inj q)
    rw [decide_eq_false h, decide_eq_false e]
theorem key_lr (a : Int) (b : Str) : decide ((Sum.inl a : Key) = Sum.inr b) = false := decide_eq_false (fun q => nomatch q)
theorem key_rl (a : Str) (b : Int) : decide ((Sum.inr a : Key) = Sum.inl b) = false := decide_eq_false (fun q => nomatch q)
noncomputable def mixKind (prog : Program) (w : World) : PySem.KeyKind prog w Key where
  is := keyIs
  hash := keyH w
  inj := fun v a b ha hb => by
    rcases keyIs_shape ha with ⟨i, t, rfl, rfl⟩ | ⟨x, t, rfl, rfl⟩
    · rcases keyIs_shape hb with ⟨j, u, rfl, e⟩ | ⟨y, u, rfl, e⟩
      · injection e with e1 _; rw [e1]
      · exact nomatch e
    · rcases keyIs_shape hb with ⟨j, u, rfl, e⟩ | ⟨y, u, rfl, e⟩
      · exact nomatch e
      · injection e with e1 _; rw [e1]
  byValue := fun k v h => by
    rcases keyIs_shape h with ⟨i, t, rfl, rfl⟩ | ⟨x, t, rfl, rfl⟩ <;> rfl
  pyHash := fun hv h => by
    rcases keyIs_shape hv with ⟨i, t, rfl, rfl⟩ | ⟨x, t, rfl, rfl⟩
    · exact wpAny_pyHash_int h
    · exact wpAny_pyHash_str h
  eqBool := fun hu hv h => by
    rcases keyIs_shape hu with ⟨i, t, rfl, rfl⟩ | ⟨x, t, rfl, rfl⟩
    · rcases keyIs_shape hv with ⟨j, u, rfl, rfl⟩ | ⟨y, u, rfl, rfl⟩
      · rw [key_ll] at h; exact wpAny_eqBool_int h
      · rw [key_lr] at h; exact SeqAt.EqAt.int_str i t y u _ _ _ _ h
    · rcases keyIs_shape hv with ⟨j, u, rfl, rfl⟩ | ⟨y, u, rfl, rfl⟩
      · rw [key_rl] at h; exact SeqAt.EqAt.str_int x t j u _ _ _ _ h
      · rw [key_rr] at h; exact wpAny_eqBool_str h
  «strs» := fun k x t v h => by
    rcases keyIs_shape h with ⟨i, u, rfl, e⟩ | ⟨y, u, rfl, e⟩
    · exact nomatch e
    · injection e with e1 _
      subst e1
      cases v <;> rfl
theorem mixKind_int (prog : Program) (w : World) (i : Int) (t : Tok) : (mixKind prog w).is (.inl i) (.int i t) = true := keyIs_int i t
theorem mixKind_str (prog : Program) (w : World) (x : Str) (t : Tok) : (mixKind prog w).is (.inr x) (.str x t) = true := keyIs_str x t
end L2
namespace L2
open PySem PySem.Spec PyProof.Rows
inductive V where
  | non | bl (b : Bool) | int (i : Int) | str (x : Str) | byt (b : Array UInt8) | flt (b : UInt64) | ref (a : Addr) | ty (n : String)
  deriving DecidableEq
noncomputable def RelV : V → Value → Prop
  | .non, u => u = Value.none
  | .bl b, u => u = Value.bool b
  | .int i, u => ∃ t, u = Value.int i t
  | .str x, u => ∃ t, u = Value.str x t
  | .byt b, u => ∃ t, u = Value.bytes b t
  | .flt b, u => ∃ t, u = Value.float b t
  | .ref a, u => u = Value.ref a
  | .ty n, u => u = Value.type n
noncomputable abbrev Vals : List V → List Value → Prop := Paired RelV
theorem Vals.length {xs : List V} {us : List Value} (r : Vals xs us) : xs.length = us.length := Paired.length r
theorem Vals.get : ∀ {xs : List V} {us : List Value} {i : Nat} {x : V}, Vals xs us → xs[i]? = some x → ∃ u, us[i]? = some u ∧ RelV x u
  | _, _, _, _, .nil, e => by simp at e
  | _, _, 0, _, .cons r _, e => by simp at e; subst e; exact ⟨_, rfl, r⟩
  | _, _, i + 1, x, .cons _ t, e => by
    obtain ⟨u, h1, h2⟩ := Vals.get (i := i) (x := x) t (by simpa using e)
    exact ⟨u, by simpa using h1, h2⟩
theorem Vals.set {x : V} {u : Value} (r : RelV x u) : ∀ {xs : List V} {us : List Value} (i : Nat), Vals xs us → Vals (xs.set i x) (us.set i u)
  | _, _, _, .nil => .nil
  | _, _, 0, .cons _ t => .cons r t
  | _, _, i + 1, .cons q t => .cons q (Vals.set r i t)
theorem Vals.append : ∀ {xs ys : List V} {us ws : List Value}, Vals xs us → Vals ys ws → Vals (xs ++ ys) (us ++ ws)
  | _, _, _, _, .nil, s => s
  | _, _, _, _, .cons r t, s => .cons r (Vals.append t s)
theorem Vals.take : ∀ {xs : List V} {us : List Value} (n : Nat), Vals xs us → Vals (xs.take n) (us.take n)
  | _, _, 0, _ => .nil
  | _, _, _ + 1, .nil => .nil
  | _, _, n + 1, .cons r t => .cons r (Vals.take n t)
theorem Vals.drop : ∀ {xs : List V} {us : List Value} (n : Nat), Vals xs us → Vals (xs.drop n) (us.drop n)
  | _, _, 0, r => r
  | _, _, _ + 1, .nil => .nil
  | _, _, n + 1, .cons _ t => Vals.drop n t
noncomputable def RelO : Option V → Option Value → Prop
  | some v, some u => RelV v u
  | none, none => True
  | _, _ => False
noncomputable def KV {κ : Type} : List (κ × V) → List (κ × Value) → Prop := Paired fun (p : κ × V) (q : κ × Value) => p.1 = q.1 ∧ RelV p.2 q.2
noncomputable def kV : Key → V
  | .inl i => .int i
  | .inr x => .str x
inductive HO where
  /-- a list -/
  | lst (xs : List V)
  /-- a tuple (never changes) -/
  | tup (xs : List V)
  /-- a dict whose keys are ints and texts; one whose keys are tuples of ints and texts (the empty one is both) -/
  | dK (kvs : List (Key × V)) | dT (kvs : List (List Key × V))
  /-- a set of ints: its members, its size -/
  | set (S : Int → Bool) (n : Nat)
  /-- an instance of the class at C, its dict at dx, its attributes -/
  | ins (C dx : Addr) (fs : List (Str × V))
  /-- the dict of the instance at x -/
  | own (x : Addr)
  /-- the dict of an exception -/
  | xd (fs : List (Str × V))
  /-- a bound method, f of x -/
  | met (f x : Addr)
  /-- a range object lo, lo + 1, .. below hi -/
  | rng (lo hi : Int)
  /-- a thing that is known to the object (the script; a dict while a loop walks it): read, never written while it is so -/
  | frz (o : Obj) (u : HO)
  /-- a code object's table -/
  | tbl (ps : Array Value)
  /-- any other thing, by what is true of its one object (a def of one's own: SetO a S n := HO.ext fun h => ..) -/
  | ext (φ : Heap → Prop)
noncomputable abbrev Hp := Addr → Option HO
noncomputable def upd (H : Hp) (a : Addr) (o : HO) : Hp := fun b => if b = a then some o else H b
theorem upd_same {H : Hp} {a : Addr} {o : HO} : upd H a o a = some o := by unfold upd; rw [if_pos rfl]
theorem upd_ne {H : Hp} {a b : Addr} {o : HO} (h : b ≠ a) : upd H a o b = H b := by unfold upd; rw [if_neg h]
theorem ne_of {H : Hp} {a b : Addr} {o u : HO} (h : H a = some o) (h' : H b = some u) (d : o ≠ u) : a ≠ b := by
  intro e; subst e; rw [h] at h'; exact d (Option.some.inj h')
theorem ne_of_none {H : Hp} {a b : Addr} {o : HO} (h : H a = some o) (h' : H b = none) : a ≠ b := by
  intro e; subst e; rw [h] at h'; cases h'
section
variable (P : Program) (w : World)
noncomputable def ObjOk (H : Hp) (h : Heap) (a : Addr) : HO → Prop
  | .lst xs => xs.length ≤ sizeLine ∧ ∃ (its : List Value) (n : Nat), Vals xs its ∧ h.get? a = some { cls := .type "list", data := .seq its.toArray n }
  | .tup xs => xs.length ≤ sizeLine ∧ ∃ its : List Value, Vals xs its ∧ IsTup h a its.toArray
  | .dK kvs => kvs.length ≤ sizeLine ∧ (a == sysModules) = false ∧ ∃ vs, KV kvs vs ∧ h.DictOf (mixKind P w) a vs
  | .dT kvs => kvs.length ≤ sizeLine ∧ (a == sysModules) = false ∧ ∃ xs : List (List Key × Addr × Value),
      Paired (fun (p : List Key × V) (q : List Key × Addr × Value) => p.1 = q.1 ∧ H q.2.1 = some (.tup (p.1.map kV)) ∧ RelV p.2 q.2.2) kvs xs ∧
      ∃ o es ep, h.get? a = some o ∧ o.ExactDict ∧ o.data = .dict es ep ∧ es.toList = xs.map (entryOfKey (tupleKind (mixKind P w))) ∧ (xs.map (·.1)).Nodup
  | .set S n => h.SetOf (intKind P w) a S n
  | .ins C dx fs => H dx = some (.own a) ∧ fs.length ≤ 1000 ∧ dx ≠ a ∧ h.get? a = some (PySem.W.instObj C dx) ∧
      ∃ mA, h.Ns1 dx mA ∧ (∀ f, RelO (fs.lookup f) (mA f)) ∧ PySem.Within mA (fs.map (·.1))
  | .own _ => ∃ o, h.get? a = some o
  | .xd fs => ∃ mA, h.Ns1 a mA ∧ ∀ f, RelO (fs.lookup f) (mA f)
  | .rng lo hi => ∃ t u v, h.get? a = some { cls := .type "range", data := .fields #[.int lo t, .int hi u, .int 1 v] }
  | .frz o u => h.get? a = some o ∧ ObjOk H h a u
  | .tbl ps => h.get? a = some { cls := .none, data := .fields ps }
  | .met f x => h.get? a = some (PySem.W.methodObj (.ref f) (.ref x))
  | .ext φ => φ h ∧ (∃ o, h.get? a = some o) ∧ ∀ h1 h2 : Heap, φ h1 → (∀ o, h1.get? a = some o → h2.get? a = some o) → φ h2
noncomputable def HOk (H : Hp) (h : Heap) : Prop := ∀ a o, H a = some o → ObjOk P w H h a o
end
section
variable {P : Program} {w : World} {H H' : Hp} {h h' : Heap} {a : Addr} {o : HO}
theorem ObjOk.lt (x : ObjOk P w H h a o) : a < h.objs.size := by
  cases o with
  | lst xs => obtain ⟨_, _, _, _, e⟩ := x; exact Heap.lt_size e
  | tup xs => obtain ⟨_, _, _, p⟩ := x; exact p.lt
  | dK kvs => obtain ⟨_, _, _, _, o, _, _, e, _⟩ := x; exact Heap.lt_size e
  | dT kvs => obtain ⟨_, _, _, _, o, _, _, e, _⟩ := x; exact Heap.lt_size e
  | set S n => obtain ⟨o, _, _, _, e, _⟩ := x; exact Heap.lt_size e
  | ins C dx fs => obtain ⟨_, _, _, e, _⟩ := x; exact Heap.lt_size e
  | own y => obtain ⟨_, e⟩ := x; exact Heap.lt_size e
  | xd fs => obtain ⟨_, ⟨_, _, _, e, _⟩, _⟩ := x; exact Heap.lt_size e
  | rng lo hi => obtain ⟨_, _, _, e⟩ := x; exact Heap.lt_size e
  | frz ob u => obtain ⟨e, _⟩ := x; exact Heap.lt_size e
  | tbl ps => exact Heap.lt_size (show h.get? a = some _ from x)
  | met f y => exact Heap.lt_size (show h.get? a = some _ from x)
  | ext φ => obtain ⟨_, ⟨_, e⟩, _⟩ := x; exact Heap.lt_size e
theorem Paired.mapP {α β : Type} {F G : α → β → Prop} : ∀ {l₁ : List α} {l₂ : List β}, Paired F l₁ l₂ → (∀ a b, F a b → G a b) → Paired G l₁ l₂
  | _, _, .nil, _ => .nil
  | _, _, .cons r t, f => .cons (f _ _ r) (Paired.mapP t f)
theorem ObjOk.stay (x : ObjOk P w H h a o) (k : ∀ b u, (b = a ∨ H b = some (.own a)) → h.get? b = some u → h'.get? b = some u)
    (ho : ∀ b, H b = some (.own a) → H' b = some (.own a)) (ht : ∀ b xs, H b = some (.tup xs) → H' b = some (.tup xs)) : ObjOk P w H' h' a o := by
  induction o with
  | lst xs => obtain ⟨z, its, n, r, e⟩ := x; exact ⟨z, its, n, r, k _ _ (.inl rfl) e⟩
  | tup xs => obtain ⟨z, its, r, ob, e, c⟩ := x; exact ⟨z, its, r, ob, k _ _ (.inl rfl) e, c⟩
  | dK kvs => obtain ⟨z, y, vs, r, ob, es, ep, e, c⟩ := x; exact ⟨z, y, vs, r, ob, es, ep, k _ _ (.inl rfl) e, c⟩
  | dT kvs =>
    obtain ⟨z, y, xs, r, ob, es, ep, e, c⟩ := x
    exact ⟨z, y, xs, Paired.mapP r fun p q z => ⟨z.1, ht _ _ z.2.1, z.2.2⟩, ob, es, ep, k _ _ (.inl rfl) e, c⟩
  | set S n => obtain ⟨ob, es, ep, t, e, c⟩ := x; exact ⟨ob, es, ep, t, k _ _ (.inl rfl) e, c⟩
  | ins C dx fs =>
    obtain ⟨d, z, ne, e, mA, ⟨od, es, ep, e2, c⟩, r⟩ := x
    exact ⟨ho _ d, z, ne, k _ _ (.inl rfl) e, mA, ⟨od, es, ep, k _ _ (.inr d) e2, c⟩, r⟩
  | own y => obtain ⟨ob, e⟩ := x; exact ⟨ob, k _ _ (.inl rfl) e⟩
  | xd fs => obtain ⟨mA, ⟨od, es, ep, e, c⟩, r⟩ := x; exact ⟨mA, ⟨od, es, ep, k _ _ (.inl rfl) e, c⟩, r⟩
  | rng lo hi => obtain ⟨t, u, v, e⟩ := x; exact ⟨t, u, v, k _ _ (.inl rfl) e⟩
  | frz ob u ih => obtain ⟨e, q⟩ := x; exact ⟨k _ _ (.inl rfl) e, ih q⟩
  | tbl ps =>
    have e : h.get? a = some { cls := .none, data := .fields ps } := x
    show h'.get? a = some { cls := .none, data := .fields ps }
    exact k a _ (.inl rfl) e
  | met f y =>
    have e : h.get? a = some (PySem.W.methodObj (.ref f) (.ref y)) := x
    show h'.get? a = some (PySem.W.methodObj (.ref f) (.ref y))
    exact k a _ (.inl rfl) e
  | ext φ => obtain ⟨p, ⟨o, e⟩, st⟩ := x; exact ⟨st _ _ p fun o q => k _ _ (.inl rfl) q, ⟨o, k _ _ (.inl rfl) e⟩, st⟩
theorem HOk.lt (x : HOk P w H h) (e : H a = some o) : a < h.objs.size := (x a o e).lt
theorem HOk.fresh (x : HOk P w H h) (e : h.objs.size ≤ a) : H a = none := by
  cases q : H a with
  | none => rfl
  | some u => exact absurd (Nat.lt_of_lt_of_le (x.lt q) e) (Nat.lt_irrefl _)
theorem HOk.kept (x : HOk P w H h) (k : ∀ b u, h.get? b = some u → h'.get? b = some u) : HOk P w H h' := fun a o e =>
  (x a o e).stay (fun b u _ q => k b u q) (fun _ q => q) fun _ _ q => q
theorem HOk.laid (x : HOk P w H h) (k : ∀ b u, h.get? b = some u → h'.get? b = some u) (hp : h.objs.size ≤ a) (new : ObjOk P w (upd H a o) h' a o) : HOk P w (upd H a o) h' := fun b u e => by
  have hn := x.fresh hp
  by_cases hb : b = a
  · subst hb; rw [upd_same] at e; cases e; exact new
  · rw [upd_ne hb] at e
    exact (x b u e).stay (fun c v _ q => k c v q) (fun c q => by rw [upd_ne (ne_of_none q hn)]; exact q) fun c xs q => by rw [upd_ne (ne_of_none q hn)]; exact q
end
noncomputable def Rd (H : Hp) (a : Addr) (u : HO) : Prop := H a = some u ∨ ∃ o, H a = some (.frz o u)
theorem Rd.of {H : Hp} {a : Addr} {u : HO} (h : H a = some u) : Rd H a u := .inl h
theorem Rd.ok {P : Program} {w : World} {H : Hp} {h : Heap} {a : Addr} {u : HO} (r : Rd H a u) (x : HOk P w H h) : ObjOk P w H h a u := by
  rcases r with r | ⟨o, r⟩
  · exact x a u r
  · obtain ⟨_, q⟩ := x a _ r
    exact q
noncomputable def Mut : Option HO → Prop
  | some (.lst _) => True
  | some (.dK _) => True
  | some (.dT _) => True
  | some (.set _ _) => True
  | some (.ins _ _ _) => True
  | some (.ext _) => True
  | _ => False
section
variable {P : Program} {w : World} {H : Hp} {h h' : Heap} {x e : Addr} {o' : HO}
theorem HOk.write (ok : HOk P w H h) (mu : Mut (H x)) (he : e = x ∨ H e = some (.own x)) (k : ∀ b u, b ≠ e → h.get? b = some u → h'.get? b = some u) (heo : ∃ u, h'.get? e = some u)
    (new : ObjOk P w (upd H x o') h' x o') : HOk P w (upd H x o') h' := fun b u q => by
  have nown : ∀ c y, H c = some (.own y) → c ≠ x := fun c y r z => by subst z; rw [r] at mu; exact mu
  have ntup : ∀ c xs, H c = some (.tup xs) → c ≠ x := fun c xs r z => by subst z; rw [r] at mu; exact mu
  by_cases hb : b = x
  · subst hb; rw [upd_same] at q; cases q; exact new
  · rw [upd_ne hb] at q
    by_cases hbe : b = e
    · have q' : H b = some (.own x) := by
        rcases he with z | z
        · exact absurd (hbe.trans z) hb
        · rw [hbe]; exact z
      rw [q] at q'; cases q'
      obtain ⟨v, hv⟩ := heo
      exact ⟨v, by rw [hbe]; exact hv⟩
    · refine (ok b u q).stay (fun c v hc r => k c v ?_ r) (fun c r => by rw [upd_ne (nown c b r)]; exact r) fun c xs r => by rw [upd_ne (ntup c xs r)]; exact r
      rcases hc with rfl | hc
      · exact hbe
      · rintro rfl
        rcases he with z | z
        · exact nown c b hc z
        · rw [hc] at z; cases z; exact hb rfl
end
structure Un (fs ex : List Addr) (H H' : Hp) (h h' : Heap) : Prop where
  keep : ∀ b o, h.get? b = some o → H b = none → b ∉ fs → b ∉ ex → h'.get? b = some o
  slot : ∀ b o, h.get? b = some o → H b = none → b ∈ fs → b ∉ ex → ∃ sl, h'.get? b = some { o with slots := sl }
  free : ∀ b o, h.get? b = some o → H b = none → b ∉ ex → H' b = none
  there : ∀ b o, h.get? b = some o → b ∉ ex → ∃ o', h'.get? b = some o'
  tups : ∀ b xs, H b = some (.tup xs) → H' b = some (.tup xs)
  frzs : ∀ b o u, H b = some (.frz o u) → H' b = some (.frz o u)
  tbls : ∀ b ps, H b = some (.tbl ps) → ∃ more, H' b = some (.tbl (ps ++ more))
section
variable {fs fs' ex ex' : List Addr} {H H1 H2 : Hp} {h h1 h2 h' : Heap} {a x e : Addr} {o : HO}
theorem Un.any (u : Un fs ex H H1 h h1) {b : Addr} {ob : Obj} (q : h.get? b = some ob) (n : H b = none) (hx : b ∉ ex) : ∃ sl, h1.get? b = some { ob with slots := sl } := by
  by_cases hb : b ∈ fs
  · exact u.slot b ob q n hb hx
  · exact ⟨ob.slots, u.keep b ob q n hb hx⟩
theorem Un.kept (k : ∀ b u, h.get? b = some u → h'.get? b = some u) : Un fs ex H H h h' :=
  ⟨fun b ob q _ _ _ => k b ob q, fun b ob q _ _ _ => ⟨ob.slots, k b ob q⟩, fun _ _ _ n _ => n, fun b ob q _ => ⟨ob, k b ob q⟩, fun _ _ q => q, fun _ _ _ q => q, fun _ ps q => ⟨#[], by rw [q]; simp⟩⟩
theorem Un.refl : Un fs ex H H h h := Un.kept fun _ _ q => q
theorem Un.laid (k : ∀ b u, h.get? b = some u → h'.get? b = some u) (hp : h.objs.size ≤ a) (hn : H a = none) : Un fs ex H (upd H a o) h h' where
  keep := fun b u q _ _ _ => k b u q
  slot := fun b u q _ _ _ => ⟨u.slots, k b u q⟩
  free := fun b u q n _ => by rw [upd_ne (Nat.ne_of_lt (Nat.lt_of_lt_of_le (Heap.lt_size q) hp))]; exact n
  there := fun b u q _ => ⟨u, k b u q⟩
  tups := fun b xs q => by rw [upd_ne (ne_of_none q hn)]; exact q
  frzs := fun b u xs q => by rw [upd_ne (ne_of_none q hn)]; exact q
  tbls := fun b ps q => ⟨#[], by rw [upd_ne (ne_of_none q hn), q]; simp⟩
theorem Un.write (mu : Mut (H x)) (he : e = x ∨ H e = some (.own x)) (k : ∀ b u, b ≠ e → h.get? b = some u → h'.get? b = some u) (heo : ∃ u, h'.get? e = some u) : Un fs ex H (upd H x o) h h' := by
  have hx : ∀ b, H b = none → b ≠ x := fun b n z => by subst z; rw [n] at mu; exact mu
  have hb : ∀ b, H b = none → b ≠ e := fun b n z => by
    subst z
    rcases he with r | r
    · exact hx b n r
    · rw [n] at r; cases r
  have hm : ∀ b u, H b = some u → ¬ Mut (some u) → b ≠ x := fun b u q nm z => by subst z; rw [q] at mu; exact nm mu
  refine ⟨fun b u q n _ _ => k b u (hb b n) q, fun b u q n _ _ => ⟨u.slots, k b u (hb b n) q⟩, fun b u q n _ => by rw [upd_ne (hx b n)]; exact n, fun b u q _ => ?_,
    fun b xs q => by rw [upd_ne (hm b _ q fun z => z)]; exact q, fun b u xs q => by rw [upd_ne (hm b _ q fun z => z)]; exact q, fun b ps q => ⟨#[], by rw [upd_ne (hm b _ q fun z => z), q]; simp⟩⟩
  by_cases hbe : b = e
  · subst hbe; exact heo
  · exact ⟨u, k b u hbe q⟩
theorem Un.mono (u : Un fs ex H H1 h h1) (hs : ∀ b ∈ fs, b ∈ fs') (hx : ∀ b ∈ ex, b ∈ ex') : Un fs' ex' H H1 h h1 :=
  ⟨fun b ob q n hb he => u.keep b ob q n (fun z => hb (hs b z)) fun z => he (hx b z), fun _ _ q n _ he => u.any q n fun z => he (hx _ z), fun b ob q n he => u.free b ob q n fun z => he (hx b z), fun b ob q he => u.there b ob q fun z => he (hx b z), u.tups, u.frzs, u.tbls⟩
end
noncomputable def trk (h : Heap) (H : Hp) : List Addr := (List.range h.objs.size).filter fun a => (H a).isSome
noncomputable def hidT (h : Heap) (H : Hp) : Heap := PySem.W.hideAll h (trk h H)
theorem hidT_size (h : Heap) (H : Hp) : (hidT h H).objs.size = h.objs.size := PySem.W.hideAll_size _ _
theorem hidT_get {h : Heap} {H : Hp} {b : Addr} {o : Obj} (e : h.get? b = some o) (n : H b = none) : (hidT h H).get? b = some o :=
  PySem.W.hideAll_get _ e fun hm => by
    have q : (H b).isSome = true := (List.mem_filter.mp hm).2
    rw [n] at q; simp at q
theorem of_hidT {h : Heap} {H : Hp} {b : Addr} {o : Obj} (e : (hidT h H).get? b = some o) : h.get? b = some o ∧ H b = none := by
  have e' : h.get? b = some o := PySem.W.of_hideAll (trk h H) e
  refine ⟨e', ?_⟩
  cases q : H b with
  | none => rfl
  | some x =>
    have hm : b ∈ trk h H := List.mem_filter.mpr ⟨List.mem_range.mpr (Heap.lt_size e'), by simp [q]⟩
    have z : (hidT h H).get? b = none := PySem.W.hideAll_none (trk h H) hm
    rw [z] at e; cases e
noncomputable def allNews (g h : Heap) (L : Addr) : List (Addr × Obj) := (List.range h.objs.size).filterMap fun a => if a = L ∨ (g.get? a).isSome = true then none else (h.get? a).map fun o => (a, o)
noncomputable def rest (g h : Heap) (L d : Addr) : List (Addr × Obj) := (allNews g h L).filter fun p => decide (p.1 ≠ d)
end L2
namespace L2
open PySem PySem.Spec PyProof.Rows
structure Mod (K : PySem.W.Frag) (mg : Str → Option Value) (base : Heap) : Prop where
  kin : K.In base
  glob : base.Ns mainGlobals mg
  blt : ∃ mb, base.Ns builtinsNs mb ∧ ∀ x : Str, x ≠ "__name__" → mb x = bootBuiltins x
  nolimit : base.NoLimit
structure Cx where
  prog : Program
  w : World
  K : PySem.W.Frag
  mg : Str → Option Value
  base : Heap
  A : Around
  N : List Str
  s₀ : Shared
  H₀ : Hp
  env : Env
  outer : List Env
  stack : List Env
  ex : List Addr
  fn : Str → Bool
  calm : Bool
  pn : List (Addr × Obj)
  xe : Value → Shared → Prop
noncomputable def frs (l : List Env) : List Addr := l.filterMap (·.frame)
noncomputable abbrev Cx.fs (X : Cx) : List Addr := frs X.outer
noncomputable def Vis (sc : Scope) (x : Str) : Prop := sc.names.lookup x = some .local ∨ sc.names.lookup x = some .cell ∨ sc.names.lookup x = some .free
noncomputable def Loc (sc : Scope) (x : Str) : Prop := sc.names.lookup x = some .local ∨ sc.names.lookup x = some .cell
noncomputable def Look (env : Env) (h : Heap) (m : Str → Option Value) (x : Str) (u : Value) : Prop :=
  (env.kindOf x = some .local ∧ m x = some u) ∨ ((env.kindOf x = some .cell ∨ env.kindOf x = some .free) ∧ ∃ c, env.cells.lookup x = some c ∧ h.IsCell c (some u))
structure Cx.Ok (X : Cx) : Prop where
  mod : Mod X.K X.mg X.base
  kind : X.env.scope.kind = .function
  glob : X.env.globals = mainGlobals
  blt : X.env.builtins = builtinsNs
  above : X.s₀.heap.objs.size ≤ X.env.locals
  inj : ∀ x y c, X.env.cells.lookup x = some c → X.env.cells.lookup y = some c → x = y
  has : ∀ x, (X.env.kindOf x = some .cell ∨ X.env.kindOf x = some .free) → ∃ c, X.env.cells.lookup x = some c
  cab : ∀ x c, X.fn x = true → X.env.cells.lookup x = some c → X.s₀.heap.objs.size ≤ c
  hd : X.calm = true → X.A.handled = none
  frames : X.A.frames = some X.stack
  stk : X.stack = X.outer ∨ (X.stack = X.env :: X.outer ∧ X.env.frame = some X.env.locals)
  exf : ∀ b ∈ X.ex, b ≠ X.env.locals ∧ ∀ x c, X.env.cells.lookup x = some c → c ≠ b
  bs : ∀ b o, X.base.get? b = some o → X.s₀.heap.get? b = some o ∧ X.H₀ b = none
  bsz : X.base.objs.size ≤ X.s₀.heap.objs.size
  noex : ∀ b o, X.base.get? b = some o → b ∉ X.ex
  exfs : ∀ b ∈ X.ex, b ∉ X.fs
  funs : X.s₀.heap.FunFrames X.base X.outer
  frf : ∀ b ∈ X.fs, X.H₀ b = none
structure Inv (X : Cx) (pins : List (Addr × Obj)) (σ : List (Option V)) (H : Hp) (s : Shared) : Prop where
  ok : X.Ok
  os : s.os = X.s₀.os
  bare : AllBare s.gens
  base : Un X.fs X.ex X.H₀ H X.s₀.heap s.heap
  loc : ∃ m, s.heap.Ns X.env.locals m ∧ ∀ (i : Nat) (x : Str) (v : V), X.N[i]? = some x → σ[i]? = some (some v) → Vis X.env.scope x → ∃ u, RelV v u ∧ Look X.env s.heap m x u
  cell : ∀ x c, X.env.cells.lookup x = some c → ∃ v, s.heap.IsCell c v
  free : H X.env.locals = none
  freeC : ∀ x c, X.env.cells.lookup x = some c → H c = none
  pin : ∀ p ∈ X.pn ++ pins, s.heap.get? p.1 = some p.2 ∧ H p.1 = none ∧ p.1 ≠ X.env.locals ∧ p.1 ∉ X.fs ∧ ∀ v, p.2.data ≠ .cell v
  hok : HOk X.prog X.w H s.heap
  len : σ.length = X.N.length
section
variable {X : Cx} {pins : List (Addr × Obj)} {σ : List (Option V)} {H H' : Hp} {s : Shared} {h' : Heap}
theorem Cx.Ok.nofr (ok : X.Ok) {b : Addr} {o : Obj} (e : X.base.get? b = some o) : b ∉ X.fs := fun hb => by
  have := (ok.funs.mem hb).1
  rw [e] at this; cases this
theorem Inv.bs (I : Inv X pins σ H s) : ∀ b o, X.base.get? b = some o → s.heap.get? b = some o ∧ H b = none := fun b o e =>
  ⟨I.base.keep b o (I.ok.bs b o e).1 (I.ok.bs b o e).2 (I.ok.nofr e) (I.ok.noex b o e), I.base.free b o (I.ok.bs b o e).1 (I.ok.bs b o e).2 (I.ok.noex b o e)⟩
theorem Inv.bk (I : Inv X pins σ H s) : ∀ b o, X.base.get? b = some o → s.heap.get? b = some o := fun b o e => (I.bs b o e).1
theorem Inv.mod (I : Inv X pins σ H s) : Mod X.K X.mg X.base := I.ok.mod
theorem Inv.kIn (I : Inv X pins σ H s) : X.K.In s.heap := I.ok.mod.kin.keeps I.bk
theorem Inv.lt (I : Inv X pins σ H s) : X.env.locals < s.heap.objs.size := let ⟨_, hn, _⟩ := I.loc; hn.lt
theorem Inv.sz (I : Inv X pins σ H s) : X.s₀.heap.objs.size ≤ s.heap.objs.size := Nat.le_trans I.ok.above (Nat.le_of_lt I.lt)
theorem Inv.nofs (I : Inv X pins σ H s) {a : Addr} (h : s.heap.objs.size ≤ a) : a ∉ X.fs := fun hb => by
  obtain ⟨_, o, ho, _⟩ := I.ok.funs.mem hb
  exact absurd (Nat.lt_of_lt_of_le (Heap.lt_size ho) (Nat.le_trans I.sz h)) (Nat.lt_irrefl _)
theorem Inv.cne (I : Inv X pins σ H s) : ∀ x c, X.env.cells.lookup x = some c → c ≠ X.env.locals := fun x c e z => by
  obtain ⟨v, o, ho, hd⟩ := I.cell x c e
  obtain ⟨m, ⟨o', es, ep, ho', hd', _⟩, _⟩ := I.loc
  rw [z, ho'] at ho; cases ho; rw [hd'] at hd; cases hd
theorem Inv.funs (I : Inv X pins σ H s) : s.heap.FunFrames X.base X.outer := by
  have all : ∀ (l : List Env), (∀ b ∈ frs l, b ∈ X.fs) → X.s₀.heap.FunFrames X.base l → s.heap.FunFrames X.base l := by
    intro l
    induction l with
    | nil => intro _ _; trivial
    | cons env r ih =>
      intro hs hl
      obtain ⟨hk, ⟨L, o, hf, hn, ho, hd⟩, hr⟩ := hl
      have hL : L ∈ X.fs := hs L (by unfold frs; rw [List.filterMap_cons, hf]; exact List.mem_cons_self)
      obtain ⟨sl, e⟩ := I.base.slot L o ho (I.ok.frf L hL) hL fun z => I.ok.exfs L z hL
      exact ⟨hk, ⟨L, _, hf, hn, e, hd⟩, ih (fun b hb => hs b (by unfold frs; rw [List.filterMap_cons, hf]; exact List.mem_cons_of_mem _ hb)) hr⟩
  exact all X.outer (fun _ hb => hb) I.ok.funs
theorem Inv.stack (I : Inv X pins σ H s) : s.heap.FunFrames X.base X.stack := by
  rcases I.ok.stk with e | ⟨e, hf⟩
  · rw [e]; exact I.funs
  · rw [e]
    obtain ⟨m, hn, _⟩ := I.loc
    refine .cons (by rw [I.ok.kind]; decide) hf hn ?_ I.funs
    exact Heap.get?_none_of_le (Nat.le_trans I.ok.bsz I.ok.above)
theorem Inv.stkSub (I : Inv X pins σ H s) : ∀ b ∈ frs X.stack, b ∈ X.env.locals :: X.fs := fun b hb => by
  rcases I.ok.stk with e | ⟨e, hf⟩
  · rw [e] at hb; exact List.mem_cons_of_mem _ hb
  · rw [e] at hb
    unfold frs at hb
    rw [List.filterMap_cons, hf] at hb
    exact hb
theorem Inv.stkFree (I : Inv X pins σ H s) : ∀ b ∈ frs X.stack, H b = none := fun b hb => by
  rcases List.mem_cons.mp (I.stkSub b hb) with e | hb
  · rw [e]; exact I.free
  · obtain ⟨_, o, ho, _⟩ := I.ok.funs.mem hb
    exact I.base.free b o ho (I.ok.frf b hb) fun z => I.ok.exfs b z hb
theorem Inv.step {g' : Array GenState} {t' : Nat} {d' : Drawn} {ch : List Addr} (I : Inv X pins σ H s)
    (hch : ∀ b ∈ ch, (b ∈ X.ex ∨ X.s₀.heap.objs.size ≤ b) ∧ b ≠ X.env.locals ∧ (∀ x c, X.env.cells.lookup x = some c → c ≠ b) ∧ ∀ p ∈ X.pn ++ pins, p.1 ≠ b)
    (keep : ∀ b o, b ≠ X.env.locals → b ∉ X.fs → b ∉ ch → s.heap.get? b = some o → H b = none → h'.get? b = some o)
    (slot : ∀ b o, b ≠ X.env.locals → b ∈ X.fs → b ∉ ch → s.heap.get? b = some o → H b = none → ∃ sl, h'.get? b = some { o with slots := sl }) (free : ∀ b o, b ∉ ch → s.heap.get? b = some o → H b = none → H' b = none)
    (there : ∀ b o, b ∉ ch → s.heap.get? b = some o → ∃ o', h'.get? b = some o')
    (tups : ∀ b xs, H b = some (.tup xs) → H' b = some (.tup xs)) (frzs : ∀ b o u, H b = some (.frz o u) → H' b = some (.frz o u)) (tbls : ∀ b ps, H b = some (.tbl ps) → ∃ more, H' b = some (.tbl (ps ++ more)))
    (ns : ∀ m, s.heap.Ns X.env.locals m → h'.Ns X.env.locals m) (hok : HOk X.prog X.w H' h') (hg : AllBare g') :
    Inv X pins σ H' { s with heap := h', gens := g', drawn := d', toks := t' } := by
  have neL : ∀ b o, X.s₀.heap.get? b = some o → b ≠ X.env.locals := fun b o e => Nat.ne_of_lt (Nat.lt_of_lt_of_le (Heap.lt_size e) I.ok.above)
  have neC : ∀ b o, X.s₀.heap.get? b = some o → b ∉ X.ex → b ∉ ch := fun b o e hx hb => by
    rcases (hch b hb).1 with z | z
    · exact hx z
    · exact absurd (Nat.lt_of_lt_of_le (Heap.lt_size e) z) (Nat.lt_irrefl _)
  have cellK : ∀ x c, X.env.cells.lookup x = some c → ∀ v, s.heap.IsCell c v → h'.IsCell c v := fun x c e v ⟨o, ho, hd⟩ => by
    have nch : c ∉ ch := fun z => (hch c z).2.2.1 x c e rfl
    by_cases hc : c ∈ X.fs
    · obtain ⟨sl, q⟩ := slot c o (I.cne x c e) hc nch ho (I.freeC x c e)
      exact ⟨_, q, hd⟩
    · exact ⟨o, keep c o (I.cne x c e) hc nch ho (I.freeC x c e), hd⟩
  refine ⟨I.ok, I.os, hg, ⟨fun b o e n hb hx => ?_, fun b o e n hb hx => ?_, fun b o e n hx => ?_, fun b o e hx => ?_, fun b xs e => tups b xs (I.base.tups b xs e), fun b o xs e => frzs b o xs (I.base.frzs b o xs e), fun b ps e => ?_⟩, ?_, fun x c e => ?_, ?_, fun x c e => ?_, fun p hp => ?_, hok, I.len⟩
  · exact keep b o (neL b o e) hb (neC b o e hx) (I.base.keep b o e n hb hx) (I.base.free b o e n hx)
  · obtain ⟨sl, e1⟩ := I.base.slot b o e n hb hx
    obtain ⟨sl', e2⟩ := slot b _ (neL b o e) hb (neC b o e hx) e1 (I.base.free b o e n hx)
    exact ⟨sl', e2⟩
  · obtain ⟨o', e1⟩ := I.base.there b o e hx
    exact free b o' (neC b o e hx) e1 (I.base.free b o e n hx)
  · obtain ⟨o', e1⟩ := I.base.there b o e hx
    exact there b o' (neC b o e hx) e1
  · obtain ⟨m1, e1⟩ := I.base.tbls b ps e
    obtain ⟨m2, e2⟩ := tbls b _ e1
    exact ⟨m1 ++ m2, by rw [e2, Array.append_assoc]⟩
  · obtain ⟨m, hn, hl⟩ := I.loc
    refine ⟨m, ns m hn, fun i x v e1 e2 e3 => ?_⟩
    obtain ⟨u, r, l⟩ := hl i x v e1 e2 e3
    refine ⟨u, r, ?_⟩
    rcases l with l | ⟨k, c, e, z⟩
    · exact .inl l
    · exact .inr ⟨k, c, e, cellK x c e _ z⟩
  · obtain ⟨v, z⟩ := I.cell x c e
    exact ⟨v, cellK x c e v z⟩
  · obtain ⟨m, ⟨o, _, _, ho, _⟩, _⟩ := I.loc
    exact free _ o (fun z => (hch _ z).2.1 rfl) ho I.free
  · obtain ⟨v, o, ho, hd⟩ := I.cell x c e
    exact free c o (fun z => (hch c z).2.2.1 x c e rfl) ho (I.freeC x c e)
  · obtain ⟨e, n, ne, nf, d⟩ := I.pin p hp
    have nch : p.1 ∉ ch := fun z => (hch p.1 z).2.2.2 p hp rfl
    exact ⟨keep p.1 p.2 ne nf nch e n, free p.1 p.2 nch e n, ne, nf, d⟩
theorem Inv.un {t' : Nat} (I : Inv X pins σ H s) (u : Un X.fs [] H H' s.heap h') (hok : HOk X.prog X.w H' h') : Inv X pins σ H' { s with heap := h', toks := t' } := by
  obtain ⟨m, ⟨o, es, ep, ho, r⟩, _⟩ := id I.loc
  obtain ⟨sl, hL⟩ := u.any ho I.free (by simp)
  exact I.step (g' := s.gens) (d' := s.drawn) (ch := []) (fun _ z => nomatch z) (fun b o _ hb _ e n => u.keep b o e n hb (by simp)) (fun b o _ hb _ e n => u.slot b o e n hb (by simp)) (fun b o _ e n => u.free b o e n (by simp)) (fun b o _ e => u.there b o e (by simp)) u.tups u.frzs u.tbls (fun m' hm => by
    obtain ⟨o', es', ep', ho', r'⟩ := hm
    rw [ho] at ho'; cases ho'
    exact ⟨_, es', ep', hL, r'⟩) hok I.bare
theorem Inv.call {g' : Array GenState} {t' : Nat} {d' : Drawn} {ch : List Addr} (I : Inv X pins σ H s) (u : Un (frs X.stack) ch H H' s.heap h') (hok : HOk X.prog X.w H' h') (hg : AllBare g')
    (hch : ∀ b ∈ ch, (b ∈ X.ex ∨ X.s₀.heap.objs.size ≤ b) ∧ b ≠ X.env.locals ∧ (∀ x c, X.env.cells.lookup x = some c → c ≠ b) ∧ ∀ p ∈ X.pn ++ pins, p.1 ≠ b) :
    Inv X pins σ H' { s with heap := h', gens := g', drawn := d', toks := t' } := by
  obtain ⟨m, ⟨o, es, ep, ho, r⟩, _⟩ := id I.loc
  obtain ⟨sl, hL⟩ := u.any ho I.free fun z => (hch _ z).2.1 rfl
  exact I.step (ch := ch) hch (fun b o hL hb hc e n => u.keep b o e n (fun z => (List.mem_cons.mp (I.stkSub b z)).elim hL hb) hc) (fun b o _ _ hc e n => u.any e n hc) (fun b o hc e n => u.free b o e n hc) (fun b o hc e => u.there b o e hc) u.tups u.frzs u.tbls (fun m' hm => by
    obtain ⟨o', es', ep', ho', r'⟩ := hm
    rw [ho] at ho'; cases ho'
    exact ⟨_, es', ep', hL, r'⟩) hok hg
theorem Inv.turned {t' : Nat} {it : Addr} (I : Inv X pins σ H s) (k : ∀ b o, b ≠ it → s.heap.get? b = some o → h'.get? b = some o) (hn : H it = none) (hL : it ≠ X.env.locals)
    (h1 : it ∈ X.ex ∨ X.s₀.heap.objs.size ≤ it) (h2 : ∀ x c, X.env.cells.lookup x = some c → c ≠ it) (h3 : ∀ p ∈ X.pn ++ pins, p.1 ≠ it) : Inv X pins σ H { s with heap := h', toks := t' } := by
  have nit : ∀ b u, H b = some u → b ≠ it := fun b u e z => by rw [z, hn] at e; cases e
  refine I.step (g' := s.gens) (d' := s.drawn) (ch := [it]) (fun b hb => ?_) (fun b o _ _ hc e _ => k b o (fun z => hc (by simp [z])) e) (fun b o _ _ hc e _ => ⟨o.slots, k b o (fun z => hc (by simp [z])) e⟩) (fun _ _ _ _ n => n)
    (fun b o hc e => ⟨o, k b o (fun z => hc (by simp [z])) e⟩) (fun _ _ e => e) (fun _ _ _ e => e) (fun b ps e => ⟨#[], by rw [e]; simp⟩) (fun m hm => ?_) (fun b u e => ?_) I.bare
  · have e : b = it := by simpa using hb
    subst e
    exact ⟨h1, hL, h2, h3⟩
  · obtain ⟨o, es, ep, ho, r⟩ := hm
    exact ⟨o, es, ep, k _ o (Ne.symm hL) ho, r⟩
  · refine (I.hok b u e).stay (fun c v hc q => k c v ?_ q) (fun _ q => q) fun _ _ q => q
    rcases hc with z | z
    · rw [z]; exact nit b u e
    · exact nit c _ z
theorem Inv.tok (I : Inv X pins σ H s) (t : Nat) : Inv X pins σ H { s with toks := t } := I.un (h' := s.heap) (t' := t) Un.refl I.hok
theorem Inv.kept {t' : Nat} (I : Inv X pins σ H s) (k : ∀ b u, s.heap.get? b = some u → h'.get? b = some u) : Inv X pins σ H { s with heap := h', toks := t' } := I.un (Un.kept k) (I.hok.kept k)
theorem Inv.laid {a : Addr} {o : HO} {t' : Nat} (I : Inv X pins σ H s) (k : ∀ b u, s.heap.get? b = some u → h'.get? b = some u) (hp : s.heap.objs.size ≤ a) (new : ObjOk X.prog X.w (upd H a o) h' a o) :
    Inv X pins σ (upd H a o) { s with heap := h', toks := t' } := I.un (Un.laid k hp (I.hok.fresh hp)) (I.hok.laid k hp new)
theorem Inv.write {x e : Addr} {o : HO} {t' : Nat} (I : Inv X pins σ H s) (mu : Mut (H x)) (he : e = x ∨ H e = some (.own x)) (k : ∀ b u, b ≠ e → s.heap.get? b = some u → h'.get? b = some u) (heo : ∃ u, h'.get? e = some u)
    (new : ObjOk X.prog X.w (upd H x o) h' x o) : Inv X pins σ (upd H x o) { s with heap := h', toks := t' } := I.un (Un.write mu he k heo) (I.hok.write mu he k heo new)
theorem Inv.pins_of {pins' : List (Addr × Obj)} (I : Inv X pins σ H s) (h : ∀ p ∈ pins', s.heap.get? p.1 = some p.2 ∧ H p.1 = none ∧ p.1 ≠ X.env.locals ∧ p.1 ∉ X.fs ∧ ∀ v, p.2.data ≠ .cell v) : Inv X pins' σ H s :=
  ⟨I.ok, I.os, I.bare, I.base, I.loc, I.cell, I.free, I.freeC, fun p hp => (List.mem_append.mp hp).elim (fun z => I.pin p (List.mem_append_left _ z)) (h p), I.hok, I.len⟩
theorem nodup_ix {N : List Str} (hN : N.Nodup) {i j : Nat} {x : Str} (a : N[i]? = some x) (b : N[j]? = some x) : i = j := by
  obtain ⟨h1, e1⟩ := List.getElem?_eq_some_iff.mp a
  obtain ⟨h2, e2⟩ := List.getElem?_eq_some_iff.mp b
  exact (List.getElem_inj hN).mp (e1.trans e2.symm)
theorem store_ok2 {M : Model} {A : Around} {E : Value → Shared → Prop} {i : Nat} {x : Str} {v : V} {u : Value} {Q : Unit → Shared → Prop} (I : Inv X pins σ H s) (hN : X.N.Nodup) (hi : X.N[i]? = some x) (hx : Loc X.env.scope x) (r : RelV v u)
    (h : ∀ s', Inv X pins (σ.set i (some v)) H s' → (∃ a, Heap.SameBut a s.heap s'.heap ∧ (a = X.env.locals ∨ X.env.cells.lookup x = some a)) → Q () s') (hf : X.fn x = true ∨ X.env.scope.names.lookup x = some .local := by first | exact .inl rfl | exact .inr rfl | assumption) : wpAny M A (storeName X.env x u) Q E s := by
  obtain ⟨m, hn, hl⟩ := id I.loc
  have hcls : (X.env.scope.kind == .class || (X.env.scope.kind == .module && X.env.locals != X.env.globals)) = false := by rw [I.ok.kind]; rfl
  have hiσ : i < σ.length := by rw [I.len]; exact (List.getElem?_eq_some_iff.mp hi).1
  have cne := I.cne
  have tracked : ∀ {a : Addr} {h' : Heap}, (∃ o, s.heap.get? a = some o ∧ H a = none) → Heap.SameBut a s.heap h' → HOk X.prog X.w H h' := fun {a h'} ha hs b ob e => by
    obtain ⟨_, _, hfree⟩ := ha
    refine (I.hok b ob e).stay (fun c w' hc q => (hs.2 c ?_).trans q) (fun _ q => q) fun _ _ q => q
    rintro rfl
    rcases hc with rfl | hc
    · rw [hfree] at e; cases e
    · rw [hfree] at hc; cases hc
  rcases hx with hk | hk
  · refine wpAny_storeName_local hk hn (fun h' hn' hs => ?_) hcls
    obtain ⟨oL, _, _, hoL, _⟩ := id hn
    refine h _ ⟨I.ok, I.os, I.bare, ⟨fun b o e n hb hx => ?_, fun b o e n hb hx => ?_, I.base.free, fun b o e hx => ?_, I.base.tups, I.base.frzs, I.base.tbls⟩, ⟨_, hn', fun j y v' e1 e2 e3 => ?_⟩, fun y c e => ?_, I.free, I.freeC, fun p hp => ?_, tracked ⟨oL, hoL, I.free⟩ hs, by simpa using I.len⟩ ⟨_, hs, .inl rfl⟩
    · exact (hs.2 b (Nat.ne_of_lt (Nat.lt_of_lt_of_le (Heap.lt_size e) I.ok.above))).trans (I.base.keep b o e n hb hx)
    · obtain ⟨sl, e1⟩ := I.base.slot b o e n hb hx
      exact ⟨sl, (hs.2 b (Nat.ne_of_lt (Nat.lt_of_lt_of_le (Heap.lt_size e) I.ok.above))).trans e1⟩
    · obtain ⟨o', e1⟩ := I.base.there b o e hx
      exact ⟨o', (hs.2 b (Nat.ne_of_lt (Nat.lt_of_lt_of_le (Heap.lt_size e) I.ok.above))).trans e1⟩
    · by_cases hj : j = i
      · subst hj
        rw [hi] at e1; cases e1
        rw [List.getElem?_set_self hiσ] at e2
        cases e2
        exact ⟨u, r, .inl ⟨hk, by simp⟩⟩
      · rw [List.getElem?_set_ne (Ne.symm hj)] at e2
        obtain ⟨u', r', q⟩ := hl j y v' e1 e2 e3
        refine ⟨u', r', ?_⟩
        rcases q with ⟨k, e⟩ | ⟨k, c, e, z⟩
        · refine .inl ⟨k, ?_⟩
          have : y ≠ x := fun e => hj (nodup_ix hN e1 (e ▸ hi))
          simp [this, e]
        · exact .inr ⟨k, c, e, z.sameBut hs (cne y c e)⟩
    · obtain ⟨w', z⟩ := I.cell y c e
      exact ⟨w', z.sameBut hs (cne y c e)⟩
    · obtain ⟨e, n, ne, nf, d⟩ := I.pin p hp
      exact ⟨(hs.2 p.1 ne).trans e, n, ne, nf, d⟩
  · have hfn : X.fn x = true := by
      rcases hf with z | z
      · exact z
      · rw [z] at hk; cases hk
    obtain ⟨c, hc⟩ := I.ok.has x (.inl hk)
    obtain ⟨w', z⟩ := I.cell x c hc
    refine wpAny_storeName_cell I.ok.kind hk hc z (fun h' hc' hs => ?_)
    obtain ⟨oc, hoc, hocd⟩ := id z
    refine h { s with heap := h' } ⟨I.ok, I.os, I.bare, ⟨fun b o e n hb hx => ?_, fun b o e n hb hx => ?_, I.base.free, fun b o e hx => ?_, I.base.tups, I.base.frzs, I.base.tbls⟩, ⟨m, hn.sameBut hs (Ne.symm (cne x c hc)), fun j y v' e1 e2 e3 => ?_⟩, fun y c' e => ?_, I.free, I.freeC, fun p hp => ?_, tracked ⟨oc, hoc, I.freeC x c hc⟩ hs, by simpa using I.len⟩ ⟨c, hs, .inr hc⟩
    · exact (hs.2 b (Nat.ne_of_lt (Nat.lt_of_lt_of_le (Heap.lt_size e) (I.ok.cab x c hfn hc)))).trans (I.base.keep b o e n hb hx)
    · obtain ⟨sl, e1⟩ := I.base.slot b o e n hb hx
      exact ⟨sl, (hs.2 b (Nat.ne_of_lt (Nat.lt_of_lt_of_le (Heap.lt_size e) (I.ok.cab x c hfn hc)))).trans e1⟩
    · obtain ⟨o', e1⟩ := I.base.there b o e hx
      exact ⟨o', (hs.2 b (Nat.ne_of_lt (Nat.lt_of_lt_of_le (Heap.lt_size e) (I.ok.cab x c hfn hc)))).trans e1⟩
    · by_cases hj : j = i
      · subst hj
        rw [hi] at e1; cases e1
        rw [List.getElem?_set_self hiσ] at e2
        cases e2
        exact ⟨u, r, .inr ⟨.inl hk, c, hc, hc'⟩⟩
      · rw [List.getElem?_set_ne (Ne.symm hj)] at e2
        obtain ⟨u', r', q⟩ := hl j y v' e1 e2 e3
        refine ⟨u', r', ?_⟩
        rcases q with q | ⟨k, c', e, z'⟩
        · exact .inl q
        · refine .inr ⟨k, c', e, z'.sameBut hs ?_⟩
          rintro rfl
          exact hj (nodup_ix hN e1 (I.ok.inj _ _ _ e hc ▸ hi))
    · by_cases hcc : c' = c
      · subst hcc; exact ⟨_, hc'⟩
      · obtain ⟨w2, z2⟩ := I.cell y c' e
        exact ⟨w2, z2.sameBut hs hcc⟩
    · obtain ⟨e, n, ne, nf, d⟩ := I.pin p hp
      refine ⟨(hs.2 p.1 ?_).trans e, n, ne, nf, d⟩
      intro q
      rw [q, hoc] at e
      have q' : oc = p.2 := Option.some.inj e
      exact d w' (by rw [← q']; exact hocd)
theorem store_ok {M : Model} {A : Around} {E : Value → Shared → Prop} {i : Nat} {x : Str} {v : V} {u : Value} {Q : Unit → Shared → Prop} (I : Inv X pins σ H s) (hN : X.N.Nodup) (hi : X.N[i]? = some x) (hx : Loc X.env.scope x) (r : RelV v u)
    (h : ∀ s', Inv X pins (σ.set i (some v)) H s' → Q () s') (hf : X.fn x = true ∨ X.env.scope.names.lookup x = some .local := by first | exact .inl rfl | exact .inr rfl | assumption) : wpAny M A (storeName X.env x u) Q E s :=
  store_ok2 I hN hi hx r (fun s' I' _ => h s' I') hf
theorem Inv.call' {s' : Shared} {ch : List Addr} (I : Inv X pins σ H s) (ho : s'.os = s.os) (u : Un (frs X.stack) ch H H' s.heap s'.heap) (hok : HOk X.prog X.w H' s'.heap) (hg : AllBare s'.gens)
    (hch : ∀ b ∈ ch, (b ∈ X.ex ∨ X.s₀.heap.objs.size ≤ b) ∧ b ≠ X.env.locals ∧ (∀ x c, X.env.cells.lookup x = some c → c ≠ b) ∧ ∀ p ∈ X.pn ++ pins, p.1 ≠ b) : Inv X pins σ H' s' := by
  obtain ⟨h', g', d', t', o'⟩ := s'
  have e : o' = s.os := ho
  subst e
  exact I.call (g' := g') (t' := t') (d' := d') u hok hg hch
end
noncomputable abbrev XK := Value → Option Addr → Hp → Prop
noncomputable abbrev St := List (Option V)
noncomputable abbrev VK := V → Hp → Prop
noncomputable abbrev TE := St → Hp → VK → Prop
noncomputable abbrev TT := St → Hp → (Bool → Hp → Prop) → Prop
noncomputable abbrev TA := St → Hp → (List V → Hp → Prop) → Prop
structure Ends where
  nx : St → Hp → Prop
  rt : VK
  bk : St → Hp → Prop := fun _ _ => False
  ct : St → Hp → Prop := fun _ _ => False
noncomputable abbrev TS := Ends → St → Hp → Prop
noncomputable def EP (X : Cx) (pins : List (Addr × Obj)) (σ : St) (Q : VK) (u : Value) (s' : Shared) : Prop := ∃ v H', Inv X pins σ H' s' ∧ RelV v u ∧ Q v H'
noncomputable def TP (X : Cx) (pins : List (Addr × Obj)) (σ : St) (Q : Bool → Hp → Prop) (b : Bool) (s' : Shared) : Prop := ∃ H', Inv X pins σ H' s' ∧ Q b H'
noncomputable def AP (X : Cx) (pins : List (Addr × Obj)) (σ : St) (Q : List V → Hp → Prop) (us : List Value) (s' : Shared) : Prop := ∃ vs H', Inv X pins σ H' s' ∧ Vals vs us ∧ Q vs H'
noncomputable def SP (X : Cx) (pins : List (Addr × Obj)) (D : Ends) (f : Flow) (s' : Shared) : Prop :=
  match f with
  | .next => ∃ σ' H', Inv X pins σ' H' s' ∧ D.nx σ' H'
  | .brk => ∃ σ' H', Inv X pins σ' H' s' ∧ D.bk σ' H'
  | .cont => ∃ σ' H', Inv X pins σ' H' s' ∧ D.ct σ' H'
  | .ret u => ∃ v σ' H', Inv X pins σ' H' s' ∧ RelV v u ∧ D.rt v H'
noncomputable def PE (X : Cx) (e : Expr) (t : TE) : Prop :=
  ∀ (pins : List (Addr × Obj)) (s : Shared) (σ : St) (H : Hp) (Q : VK), Inv X pins σ H s → t σ H Q → wpAny (model X.prog X.w) X.A (eval e X.env) (EP X pins σ Q) X.xe s
noncomputable def PT (X : Cx) (e : Expr) (t : TT) : Prop :=
  ∀ (pins : List (Addr × Obj)) (s : Shared) (σ : St) (H : Hp) (Q : Bool → Hp → Prop), Inv X pins σ H s → t σ H Q → wpAny (model X.prog X.w) X.A (isTrue e X.env (eval e X.env)) (TP X pins σ Q) X.xe s
noncomputable def PW (X : Cx) (e : Expr) (t : TT) : Prop :=
  ∀ (whole : Sem Value) (pins : List (Addr × Obj)) (s : Shared) (σ : St) (H : Hp) (Q : Bool → Hp → Prop), Inv X pins σ H s → t σ H Q → wpAny (model X.prog X.w) X.A (isTrue e X.env whole) (TP X pins σ Q) X.xe s
theorem PW.pt {X : Cx} {e : Expr} {t : TT} (h : PW X e t) : PT X e t := h _
noncomputable def PA (X : Cx) (es : List Expr) (t : TA) : Prop :=
  ∀ (pos : Pos) (pins : List (Addr × Obj)) (s : Shared) (σ : St) (H : Hp) (Q : List V → Hp → Prop), Inv X pins σ H s → t σ H Q → wpAny (model X.prog X.w) X.A (spliced (backTo pos (starEach es X.env))) (AP X pins σ Q) X.xe s
noncomputable def PS (X : Cx) (st : Stmt) (t : TS) : Prop :=
  ∀ (pins : List (Addr × Obj)) (s : Shared) (σ : St) (H : Hp) (D : Ends), Inv X pins σ H s → t D σ H → wpAny (model X.prog X.w) X.A (exec st X.env) (SP X pins D) X.xe s
noncomputable def PSs (X : Cx) (st : List Stmt) (t : TS) : Prop :=
  ∀ (pins : List (Addr × Obj)) (s : Shared) (σ : St) (H : Hp) (D : Ends), Inv X pins σ H s → t D σ H → wpAny (model X.prog X.w) X.A (execs st X.env) (SP X pins D) X.xe s
theorem thn {α : Type} {t : Sem α} {Q Q' : α → Shared → Prop} {M : Model} {A : Around} {E : Value → Shared → Prop} {s : Shared} (h : wpAny M A t Q E s) (hQ : ∀ a s, Q a s → Q' a s) : wpAny M A t Q' E s := wpAny_mono h hQ fun _ _ x => x
end L2
namespace L2
open PySem PySem.Spec PyProof.Rows
section
variable {X : Cx}
noncomputable def tVar (i : Nat) : TE := fun σ H Q => ∃ v, σ[i]? = some (some v) ∧ Q v H
noncomputable def tC (v : V) : TE := fun _ H Q => Q v H
theorem pe_var {i : Nat} {x : Str} {pos : Pos} (hN : X.N[i]? = some x) (hv : Vis X.env.scope x) (hd : (x == ("__debug__" : Str)) = false := by decide) (hcd : (x == ("__classdict__" : Str)) = false := by decide) : PE X (.Name x pos) (tVar i) := by
  intro pins s σ H Q I h
  obtain ⟨v, e, h⟩ := h
  obtain ⟨m, hn, hl⟩ := I.loc
  obtain ⟨u, r, l⟩ := hl i x v hN e hv
  have fin : EP X pins σ Q u s := ⟨v, H, I, r, h⟩
  rcases l with ⟨hk, hm⟩ | ⟨hk, c, hc, hcell⟩
  · exact wpAny_Name (wpAny_loadName_local I.ok.kind hk hn hm fin) hd
  · rcases hk with hk | hk
    · exact wpAny_Name (wpAny_loadName_cell I.ok.kind hk hc hcell fin) hd
    · exact wpAny_Name (wpAny_loadName_free I.ok.kind hk hc hcell fin hcd) hd
theorem pe_int {i j pos} : PE X (.Constant (.int i) j pos) (tC (.int i)) := fun _ _ _ H _ I h => wpAny_Constant_int ⟨.int i, H, I.tok _, ⟨_, rfl⟩, h⟩
theorem pe_bl {b j pos} : PE X (.Constant (.bool b) j pos) (tC (.bl b)) := fun _ _ _ H _ I h => Constant_bool ⟨.bl b, H, I, rfl, h⟩
theorem pe_non {j pos} : PE X (.Constant .none j pos) (tC .non) := fun _ _ _ H _ I h => Constant_none ⟨.non, H, I, rfl, h⟩
noncomputable def Gl (X : Cx) (x : Str) : Prop := X.env.kindOf x = some .globalImplicit
theorem ld_glob {E : Value → Shared → Prop} {pins : List (Addr × Obj)} {s : Shared} {σ : St} {H : Hp} {x : Str} {u : Value} {pos : Pos} {Q : Value → Shared → Prop} (I : Inv X pins σ H s) (hg : Gl X x) (hm : X.mg x = some u) (h : Q u s)
    (hd : (x == ("__debug__" : Str)) = false := by decide) : wpAny (model X.prog X.w) X.A (eval (.Name x pos) X.env) Q E s :=
  Calls.Name_function_global I.ok.kind hg (Calls.loadGlobal_global (by rw [I.ok.glob]; exact I.mod.glob.keeps I.bk) hm h) hd
theorem ld_blt {E : Value → Shared → Prop} {pins : List (Addr × Obj)} {s : Shared} {σ : St} {H : Hp} {x : Str} {u : Value} {pos : Pos} {Q : Value → Shared → Prop} (I : Inv X pins σ H s) (hg : Gl X x) (hm : X.mg x = none) (hv : bootBuiltins x = some u) (h : Q u s)
    (hn : x ≠ "__name__" := by decide) (hd : (x == ("__debug__" : Str)) = false := by decide) : wpAny (model X.prog X.w) X.A (eval (.Name x pos) X.env) Q E s := by
  obtain ⟨mb, h1, h2⟩ := I.mod.blt
  exact Calls.Name_function_global I.ok.kind hg (Calls.loadGlobal_builtin (by rw [I.ok.glob]; exact I.mod.glob.keeps I.bk) hm (by rw [I.ok.blt]; exact h1.keeps I.bk) ((h2 x hn).trans hv) h) hd
theorem pe_glob {x : Str} {v : V} {u : Value} {pos : Pos} (hg : Gl X x) (hm : X.mg x = some u) (r : RelV v u) (hd : (x == ("__debug__" : Str)) = false := by decide) : PE X (.Name x pos) (tC v) :=
  fun _ _ _ H _ I h => ld_glob I hg hm ⟨v, H, I, r, h⟩ hd
variable {a b : Expr} {ta tb : TE} {pos : Pos}
noncomputable def PC (X : Cx) (op : CmpOp) (a b : Expr) (t : TE) : Prop :=
  ∀ (pins : List (Addr × Obj)) (s : Shared) (σ : St) (H : Hp) (Q : VK), Inv X pins σ H s → t σ H Q →
    wpAny (model X.prog X.w) X.A (eval a X.env) (fun v s₁ => wpAny (model X.prog X.w) X.A (eval b X.env) (fun u s₂ => wpAny (model X.prog X.w) X.A (compareOp op v u) (EP X pins σ Q) X.xe s₂) X.xe s₁) X.xe s
theorem nobehind (b : Expr) {op : CmpOp} (h : op ≠ .In) (h2 : op ≠ .NotIn) : behindInMarks op b = false := by
  have e1 : (op == CmpOp.In) = false := by cases op <;> first | rfl | exact absurd rfl h
  have e2 : (op == CmpOp.NotIn) = false := by cases op <;> first | rfl | exact absurd rfl h2
  cases b <;> simp [behindInMarks, e1, e2]
noncomputable def tB (t : TE) : TT := fun σ H Q => t σ H fun x H1 => ∃ c, x = .bl c ∧ Q c H1
theorem pt_cmp {op : CmpOp} {t : TE} (h : PC X op a b t) (h1 : behindInMarks op b = false := by first | exact nobehind _ (by decide) (by decide) | rfl) : PT X (.Compare a [op] [b] pos) (tB t) := by
  intro pins s σ H Q I hw
  refine wpAny_isTrue_Compare1 (thn (h pins s σ H _ I hw) fun v s1 h1 => thn h1 fun u s2 h2 => thn h2 fun c s3 ⟨x, H1, I1, r1, q1⟩ => ?_) h1
  obtain ⟨d, rfl, q⟩ := q1
  cases r1
  exact wpAny_truthy_bool ⟨H1, I1, q⟩
variable {tA tB' : TT} {rest : List Expr}
noncomputable def tAnd (t u : TT) : TT := fun σ H Q => t σ H fun c H1 => if c = true then u σ H1 Q else Q false H1
noncomputable def tOr (t u : TT) : TT := fun σ H Q => t σ H fun c H1 => if c = true then Q true H1 else u σ H1 Q
noncomputable def tNot (t : TT) : TT := fun σ H Q => t σ H fun c H1 => Q (!c) H1
theorem pw_and1 (ha : PT X a tA) : PW X (.BoolOp .And [a] pos) tA := by
  intro wh pins s σ H Q I h
  refine isTrue_and (thn (ha pins s σ H Q I h) fun c s1 e => ?_)
  cases c with
  | true => exact isTrue_and_nil e
  | false => exact e
theorem pw_or1 (ha : PT X a tA) : PW X (.BoolOp .Or [a] pos) tA := by
  intro wh pins s σ H Q I h
  refine isTrue_or (thn (ha pins s σ H Q I h) fun c s1 e => ?_)
  cases c with
  | false => exact isTrue_or_nil e
  | true => exact e
theorem pw_and (ha : PT X a tA) (hb : PW X (.BoolOp .And (b :: rest) pos) tB') : PW X (.BoolOp .And (a :: b :: rest) pos) (tAnd tA tB') := by
  intro wh pins s σ H Q I h
  refine isTrue_and (thn (ha pins s σ H _ I h) fun c s1 hh => ?_)
  obtain ⟨H1, I1, q1⟩ := hh
  cases c with
  | true => exact hb wh pins s1 σ H1 Q I1 q1
  | false => exact ⟨H1, I1, q1⟩
theorem pw_or (ha : PT X a tA) (hb : PW X (.BoolOp .Or (b :: rest) pos) tB') : PW X (.BoolOp .Or (a :: b :: rest) pos) (tOr tA tB') := by
  intro wh pins s σ H Q I h
  refine isTrue_or (thn (ha pins s σ H _ I h) fun c s1 hh => ?_)
  obtain ⟨H1, I1, q1⟩ := hh
  cases c with
  | true => exact ⟨H1, I1, q1⟩
  | false => exact hb wh pins s1 σ H1 Q I1 q1
theorem pt_not (ha : PT X a tA) : PT X (.UnaryOp .Not a pos) (tNot tA) := by
  intro pins s σ H Q I h
  exact isTrue_not (ha pins s σ H (fun c H1 => Q (!c) H1) I h)
theorem pe_one {op} {t : TE} (h : PE X a t) : PE X (.BoolOp op [a] pos) t := fun pins s σ H Q I hw => BoolOp_one (h pins s σ H Q I hw)
noncomputable def tIf (t : TT) (ta tb : TE) : TE := fun σ H Q => t σ H fun c H1 => if c = true then ta σ H1 Q else tb σ H1 Q
theorem pe_ifExp {c : Expr} (hc : PT X c tA) (ha : PE X a ta) (hb : PE X b tb) : PE X (.IfExp c a b pos) (tIf tA ta tb) := by
  intro pins s σ H Q I h
  refine wpAny_IfExp (thn (hc pins s σ H _ I h) fun d s1 hh => ?_)
  obtain ⟨H1, I1, q1⟩ := hh
  cases d with
  | true => exact ha pins s1 σ H1 Q I1 q1
  | false => exact hb pins s1 σ H1 Q I1 q1
end
end L2
namespace L2
open PySem PySem.Spec PyProof.Rows
noncomputable def SqL (K : PySem.W.Frag) (H : Hp) (a : Addr) (xs : List V) : Prop :=
  Rd H a (.lst xs) ∨
    ∃ (o : Obj) (its : Array Value) (n : Nat), K.lookup a = some o ∧ o.cls = .type "list" ∧ o.dict = none ∧ o.data = .seq its n ∧ its.size ≤ sizeLine ∧ Vals xs its.toList
noncomputable def SqT (K : PySem.W.Frag) (H : Hp) (a : Addr) (xs : List V) : Prop :=
  Rd H a (.tup xs) ∨
    ∃ (o : Obj) (its : Array Value) (n : Nat), K.lookup a = some o ∧ o.cls = .type "tuple" ∧ o.data = .seq its n ∧ its.size ≤ sizeLine ∧ Vals xs its.toList
noncomputable def absV : Value → Option V
  | .none => some .non
  | .bool b => some (.bl b)
  | .int i _ => some (.int i)
  | .str x _ => some (.str x)
  | .bytes b _ => some (.byt b)
  | .float b _ => some (.flt b)
  | .ref a => some (.ref a)
  | .type n => some (.ty n)
  | _ => none
theorem RelV.abs {x : V} {u : Value} (r : RelV x u) : absV u = some x := by
  cases x with
  | non => cases r; rfl
  | bl _ => cases r; rfl
  | int _ => obtain ⟨t, rfl⟩ := r; rfl
  | str _ => obtain ⟨t, rfl⟩ := r; rfl
  | byt _ => obtain ⟨t, rfl⟩ := r; rfl
  | flt _ => obtain ⟨t, rfl⟩ := r; rfl
  | ref _ => cases r; rfl
  | ty _ => cases r; rfl
theorem RelV.inj {x y : V} {u : Value} (r : RelV x u) (q : RelV y u) : x = y := Option.some.inj (r.abs.symm.trans q.abs)
theorem Vals.inj : ∀ {xs ys : List V} {us : List Value}, Vals xs us → Vals ys us → xs = ys
  | _, _, _, .nil, h => by cases h; rfl
  | _, _, _, .cons r t, h => by
    cases h with
    | cons r' t' => rw [r.inj r', Vals.inj t t']
section
variable {X : Cx} {pins : List (Addr × Obj)} {σ : St} {H : Hp} {s : Shared} {a : Addr} {xs ys : List V}
theorem SqL.of {K : PySem.W.Frag} (h : H a = some (.lst xs)) : SqL K H a xs := .inl (.inl h)
theorem SqT.of {K : PySem.W.Frag} (h : H a = some (.tup xs)) : SqT K H a xs := .inl (.inl h)
theorem Inv.list (I : Inv X pins σ H s) (h : SqL X.K H a xs) : ∃ its : List Value, Vals xs its ∧ PlainL s.heap a its.toArray ∧ xs.length ≤ sizeLine := by
  rcases h with h | ⟨o, its, n, hk, hc, hd, hs, hz, r⟩
  · obtain ⟨z, its, n, r, e⟩ := h.ok I.hok
    exact ⟨its, r, ⟨_, n, e, rfl, rfl, rfl⟩, z⟩
  · refine ⟨its.toList, r, ⟨o, n, I.kIn a o hk, hc, hd, by simpa using hs⟩, ?_⟩
    have e := r.length
    simp only [Array.length_toList] at e
    (first | lia | omega)
theorem Inv.tuple (I : Inv X pins σ H s) (h : SqT X.K H a xs) : ∃ its : List Value, Vals xs its ∧ IsTup s.heap a its.toArray ∧ xs.length ≤ sizeLine := by
  rcases h with h | ⟨o, its, n, hk, hc, hs, hz, r⟩
  · obtain ⟨z, its, r, p⟩ := h.ok I.hok
    exact ⟨its, r, p, z⟩
  · refine ⟨its.toList, r, ⟨o, I.kIn a o hk, hc, n, by simpa using hs⟩, ?_⟩
    have e := r.length
    simp only [Array.length_toList] at e
    (first | lia | omega)
theorem Inv.list_inj (I : Inv X pins σ H s) (h : SqL X.K H a xs) (h' : SqL X.K H a ys) : xs = ys := by
  obtain ⟨its, r, ⟨o, n, e, _, _, d⟩, _⟩ := I.list h
  obtain ⟨its', r', ⟨o', n', e', _, _, d'⟩, _⟩ := I.list h'
  rw [e] at e'; cases e'
  rw [d] at d'
  injection d' with d1 _
  have : its = its' := by simpa using congrArg Array.toList d1
  subst this
  exact r.inj r'
theorem Inv.tuple_inj (I : Inv X pins σ H s) (h : SqT X.K H a xs) (h' : SqT X.K H a ys) : xs = ys := by
  obtain ⟨its, r, ⟨o, e, _, n, d⟩, _⟩ := I.tuple h
  obtain ⟨its', r', ⟨o', e', _, n', d'⟩, _⟩ := I.tuple h'
  rw [e] at e'; cases e'
  rw [d] at d'
  injection d' with d1 _
  have : its = its' := by simpa using congrArg Array.toList d1
  subst this
  exact r.inj r'
end
noncomputable abbrev Cx.wish (X : Cx) (E : Value → Shared → Prop) : Cx := { X with xe := E }
noncomputable abbrev Cx.nox (X : Cx) : Cx := X.wish fun _ _ => False
theorem Cx.Ok.wish {X : Cx} (ok : X.Ok) (E : Value → Shared → Prop) : (X.wish E).Ok :=
  ⟨ok.mod, ok.kind, ok.glob, ok.blt, ok.above, ok.inj, ok.has, ok.cab, ok.hd, ok.frames, ok.stk, ok.exf, ok.bs, ok.bsz, ok.noex, ok.exfs, ok.funs, ok.frf⟩
theorem Cx.Ok.unwish {X : Cx} {E : Value → Shared → Prop} (ok : (X.wish E).Ok) : X.Ok :=
  ⟨ok.mod, ok.kind, ok.glob, ok.blt, ok.above, ok.inj, ok.has, ok.cab, ok.hd, ok.frames, ok.stk, ok.exf, ok.bs, ok.bsz, ok.noex, ok.exfs, ok.funs, ok.frf⟩
section
variable {X : Cx} {pins : List (Addr × Obj)} {σ : St} {H : Hp} {s : Shared} {E : Value → Shared → Prop}
theorem Inv.wish (I : Inv X pins σ H s) (E : Value → Shared → Prop) : Inv (X.wish E) pins σ H s := ⟨I.ok.wish E, I.os, I.bare, I.base, I.loc, I.cell, I.free, I.freeC, I.pin, I.hok, I.len⟩
theorem Inv.unwish (I : Inv (X.wish E) pins σ H s) : Inv X pins σ H s := ⟨I.ok.unwish, I.os, I.bare, I.base, I.loc, I.cell, I.free, I.freeC, I.pin, I.hok, I.len⟩
theorem SP.unwish {D : Ends} {f : Flow} {s' : Shared} (h : SP (X.wish E) pins D f s') : SP X pins D f s' := by
  cases f with
  | next => obtain ⟨σ', H', I, q⟩ := h; exact ⟨σ', H', I.unwish, q⟩
  | brk => obtain ⟨σ', H', I, q⟩ := h; exact ⟨σ', H', I.unwish, q⟩
  | cont => obtain ⟨σ', H', I, q⟩ := h; exact ⟨σ', H', I.unwish, q⟩
  | ret u => obtain ⟨v, σ', H', I, r, q⟩ := h; exact ⟨v, σ', H', I.unwish, r, q⟩
theorem PSs.nox {st : List Stmt} {t : TS} (h : PSs X.nox st t) : PSs X st t := fun pins s σ H D I hw =>
  wpAny_mono (h pins s σ H D (I.wish _) hw) (fun _ _ q => q.unwish) fun _ _ z => False.elim z
end
section
variable {X : Cx} {st : Stmt} {rest : List Stmt} {t u : TS} {e : Expr} {te : TE} {pos : Pos}
noncomputable def tNext : TS := fun D σ H => D.nx σ H
noncomputable def tSeq (t u : TS) : TS := fun D σ H => t { D with nx := u D } σ H
theorem pss_nil : PSs X [] tNext := fun _ _ σ H _ I h => wpAny_execs_nil ⟨σ, H, I, h⟩
theorem pss_cons (h1 : PS X st t) (h2 : PSs X rest u) : PSs X (st :: rest) (tSeq t u) := by
  intro pins s σ H D I h
  refine wpAny_execs_cons (thn (h1 pins s σ H { D with nx := u D } I h) fun f s1 q => ?_)
  cases f with
  | next =>
    obtain ⟨σ', H', I', q⟩ := q
    exact h2 pins s1 σ' H' D I' q
  | ret v => exact q
  | brk => exact q
  | cont => exact q
theorem pss_one (h1 : PS X st t) : PSs X [st] t := by
  intro pins s σ H D I h
  refine wpAny_execs_cons (thn (h1 pins s σ H D I h) fun f s1 q => ?_)
  cases f with
  | next => exact wpAny_execs_nil q
  | ret v => exact q
  | brk => exact q
  | cont => exact q
theorem Inv.quiet {pins : List (Addr × Obj)} {σ : St} {H : Hp} {s : Shared} (I : Inv X pins σ H s) : interactive X.env = false := by simp [interactive, I.ok.kind]
noncomputable def tDrop (te : TE) : TS := fun D σ H => te σ H fun _ H1 => D.nx σ H1
theorem ps_expr (he : PE X e te) (hs : swapsWith e none pos.line X.env = pure false := by rfl) : PS X (.Expr e pos) (tDrop te) := by
  intro pins s σ H D I h
  exact wpAny_Expr_any (thn (he pins s σ H _ I h) fun v s1 ⟨x, H1, I1, r1, q1⟩ => ⟨σ, H1, I1, q1⟩) I.quiet hs
noncomputable def tRet (te : TE) : TS := fun D σ H => te σ H D.rt
theorem ps_ret (he : PE X e te) : PS X (.Return (some e) pos) (tRet te) := by
  intro pins s σ H D I h
  exact wpAny_Return_some (thn (he pins s σ H _ I h) fun v s1 ⟨x, H1, I1, r1, q1⟩ => ⟨x, σ, H1, I1, r1, q1⟩)
noncomputable def tIfS (c : TT) (t u : TS) : TS := fun D σ H => c σ H fun b H1 => if b = true then t D σ H1 else u D σ H1
theorem ps_if {c : Expr} {a b : List Stmt} {tc : TT} (hc : PT X c tc) (ha : PSs X a t) (hb : PSs X b u) : PS X (.If c a b pos) (tIfS tc t u) := by
  intro pins s σ H D I h
  refine wpAny_If (thn (hc pins s σ H _ I h) fun d s1 hh => ?_)
  obtain ⟨H1, I1, q1⟩ := hh
  cases d with
  | true => exact ha pins s1 σ H1 D I1 q1
  | false => exact hb pins s1 σ H1 D I1 q1
end
noncomputable abbrev TG := V → St → Hp → (St → Hp → Prop) → Prop
noncomputable abbrev TGs := List V → St → Hp → (St → Hp → Prop) → Prop
noncomputable def PG (X : Cx) (target : Expr) (t : TG) : Prop :=
  ∀ (pins : List (Addr × Obj)) (s : Shared) (σ : St) (H : Hp) (v : V) (u : Value) (Q : St → Hp → Prop), Inv X pins σ H s → RelV v u → t v σ H Q →
    wpAny (model X.prog X.w) X.A (assign target X.env u) (fun _ s' => ∃ σ' H', Inv X pins σ' H' s' ∧ Q σ' H') X.xe s
noncomputable def PGs (X : Cx) (ts : List Expr) (t : TGs) : Prop :=
  ∀ (pins : List (Addr × Obj)) (s : Shared) (σ : St) (H : Hp) (vs : List V) (us : List Value) (Q : St → Hp → Prop), Inv X pins σ H s → Vals vs us → t vs σ H Q →
    wpAny (model X.prog X.w) X.A (assignInOrder ((assignEach ts X.env).map (·.2)) us) (fun _ s' => ∃ σ' H', Inv X pins σ' H' s' ∧ Q σ' H') X.xe s
noncomputable abbrev TSet := V → V → V → Hp → (Hp → Prop) → Prop
noncomputable def PSet (X : Cx) (t : TSet) : Prop :=
  ∀ (pins : List (Addr × Obj)) (s : Shared) (σ : St) (H : Hp) (o i v : V) (ov iv u : Value) (Q : Hp → Prop), Inv X pins σ H s → RelV o ov → RelV i iv → RelV v u → t o i v H Q →
    wpAny (model X.prog X.w) X.A (setItem ov iv u) (fun _ s' => ∃ H', Inv X pins σ H' s' ∧ Q H') X.xe s
noncomputable abbrev TIp := V → V → Hp → VK → Prop
noncomputable def PIp (X : Cx) (op : Operator) (t : TIp) : Prop :=
  ∀ (pins : List (Addr × Obj)) (s : Shared) (σ : St) (H : Hp) (x y : V) (v u : Value) (Q : VK), Inv X pins σ H s → RelV x v → RelV y u → t x y H Q →
    wpAny (model X.prog X.w) X.A (inplaceOp op v u) (EP X pins σ Q) X.xe s
section
variable {X : Cx} {pos : Pos}
noncomputable def gName (i : Nat) : TG := fun v σ H Q => Q (σ.set i (some v)) H
theorem pg_name {i : Nat} {x : Str} (hN : X.N.Nodup) (hi : X.N[i]? = some x) (hx : Loc X.env.scope x) (hf : X.fn x = true ∨ X.env.scope.names.lookup x = some .local := by first | exact .inl rfl | exact .inr rfl | assumption) : PG X (.Name x pos) (gName i) := by
  intro pins s σ H v u Q I r h
  exact wpAny_assign_Name (store_ok I hN hi hx r (fun s' I' => ⟨_, H, I', h⟩) hf)
noncomputable def gNil : TGs := fun vs σ H Q => vs = [] ∧ Q σ H
noncomputable def gCons (t : TG) (u : TGs) : TGs := fun vs σ H Q => ∃ v r, vs = v :: r ∧ t v σ H fun σ' H' => u r σ' H' Q
theorem pgs_nil : PGs X [] gNil := by
  intro pins s σ H vs us Q I r h
  obtain ⟨e, h⟩ := h
  subst e
  cases r
  exact assignInOrder_nil ⟨σ, H, I, h⟩
theorem pgs_cons {e : Expr} {es : List Expr} {t : TG} {u : TGs} (h1 : PG X e t) (h2 : PGs X es u)
    (hs : (assignEach (e :: es) X.env).map (·.2) = assign e X.env :: (assignEach es X.env).map (·.2) := by rfl) : PGs X (e :: es) (gCons t u) := by
  intro pins s σ H vs us Q I r h
  obtain ⟨v, vr, e1, h⟩ := h
  subst e1
  cases r with
  | cons r rr =>
    rw [hs]
    refine assignInOrder_cons (thn (h1 pins s σ H _ _ _ I r h) fun _ s1 hh => ?_)
    obtain ⟨σ1, H1, I1, q1⟩ := hh
    exact h2 pins s1 σ1 H1 _ _ Q I1 rr q1
noncomputable def gTup (K : PySem.W.Frag) (n : Nat) (t : TGs) : TG := fun v σ H Q => ∃ a xs, v = .ref a ∧ SqT K H a xs ∧ xs.length = n ∧ t xs σ H Q
theorem pg_tup {es : List Expr} {k : Nat} {t : TGs} {n : Nat} (hc : X.calm = true) (h : PGs X es t)
    (hn : (assignEach es X.env).length = n := by rfl) (hst : (assignEach es X.env).findIdx? (·.1) = none := by rfl) : PG X (.Tuple es k pos) (gTup X.K n t) := by
  intro pins s σ H v u Q I r hw
  obtain ⟨a, xs, e1, hq, hl, hw⟩ := hw
  subst e1
  cases r
  obtain ⟨its, rv, ht, hz⟩ := I.tuple hq
  refine assign_Tuple_tuple (I.ok.hd hc) ht (by simp [hn, ← hl, rv.length]) hst fun h' hx => ?_
  have I1 : Inv X pins σ H { s with heap := h' } := I.kept (t' := s.toks) fun b o e => hx b o (Nat.ne_of_lt (Heap.lt_size e)) e
  exact h pins _ σ H xs _ Q I1 (by simpa using rv) hw
noncomputable def gSub (to ti : TE) (t : TSet) : TG := fun v σ H Q => to σ H fun o H1 => ti σ H1 fun i H2 => t o i v H2 fun H3 => Q σ H3
theorem pg_sub {o i : Expr} {to ti : TE} {t : TSet} (ho : PE X o to) (hi : PE X i ti) (hs : PSet X t)
    (ha : ∀ v, assign (.Subscript o i pos) X.env v = (do
      let ov ← holding [v] (eval o X.env)
      let iv ← holding [v, ov] (eval i X.env)
      standAt pos
      holding [v, ov, iv] (setItem ov iv v)
      release [v, ov, iv] []) := by intro _; rfl) : PG X (.Subscript o i pos) (gSub to ti t) := by
  intro pins s σ H v u Q I r h
  rw [ha]
  refine wpAny_bind (wpAny_holding (thn (ho pins s σ H _ I h) fun ov s1 hh => ?_))
  obtain ⟨x, H1, I1, r1, q1⟩ := hh
  refine wpAny_bind (wpAny_holding (thn (hi pins s1 σ H1 _ I1 q1) fun iv s2 hh => ?_))
  obtain ⟨y, H2, I2, r2, q2⟩ := hh
  refine wpAny_bind (wpAny_standAt (wpAny_bind (wpAny_holding (thn (hs pins s2 σ H2 x y v ov iv u _ I2 r1 r2 r q2) fun _ s3 hh => ?_))))
  obtain ⟨H3, I3, q3⟩ := hh
  exact wpAny_release ⟨σ, H3, I3, q3⟩
noncomputable def tAsg (te : TE) (g : TG) : TS := fun D σ H => te σ H fun x H1 => g x σ H1 D.nx
theorem ps_asg {tg e : Expr} {te : TE} {g : TG} (he : PE X e te) (hg : PG X tg g) (hs : swapsWithSole [tg] e pos.line X.env = pure false := by rfl) (hw : swappedStores [tg] e X.env = pure none := by rfl)
    (h1 : (assignEach [tg] X.env).map (·.2) = [assign tg X.env] := by rfl) : PS X (.Assign [tg] e pos) (tAsg te g) := by
  intro pins s σ H D I h
  refine wpAny_Assign_stores (thn (he pins s σ H _ I h) fun v s1 ⟨x, H1, I1, r1, q1⟩ => ?_) hs hw
  rw [h1]
  exact thn (hg pins s1 σ H1 x v _ I1 r1 q1) fun _ s2 q => q
theorem ps_set {i : Nat} {x : Str} {e : Expr} {te : TE} {pos' : Pos} (hN : X.N.Nodup) (hi : X.N[i]? = some x) (hx : Loc X.env.scope x) (he : PE X e te) (hs : swapsWith e (some (.Name x pos')) pos.line X.env = pure false := by rfl) (hf : X.fn x = true ∨ X.env.scope.names.lookup x = some .local := by first | exact .inl rfl | exact .inr rfl | assumption) :
    PS X (.Assign [.Name x pos'] e pos) (tAsg te (gName i)) := by
  intro pins s σ H D I h
  refine wpAny_Assign_Name (thn (he pins s σ H _ I h) fun v s1 ⟨y, H1, I1, r1, q1⟩ => ?_) hs
  exact store_ok I1 hN hi hx r1 (fun s2 I2 => ⟨_, H1, I2, q1⟩) hf
noncomputable def tAug (i : Nat) (te : TE) (ti : TIp) : TS := fun D σ H => ∃ x, σ[i]? = some (some x) ∧ te σ H fun y H1 => ti x y H1 fun z H2 => D.nx (σ.set i (some z)) H2
theorem ps_aug {i : Nat} {x : Str} {e : Expr} {te : TE} {op : Operator} {ti : TIp} {pos' : Pos} (hN : X.N.Nodup) (hi : X.N[i]? = some x) (hx : Loc X.env.scope x) (he : PE X e te) (ho : PIp X op ti) (hf : X.fn x = true ∨ X.env.scope.names.lookup x = some .local := by first | exact .inl rfl | exact .inr rfl | assumption) :
    PS X (.AugAssign (.Name x pos') op e pos) (tAug i te ti) := by
  intro pins s σ H D I h
  obtain ⟨v, e1, h⟩ := h
  obtain ⟨m, hn, hl⟩ := I.loc
  have vis : Vis X.env.scope x := by rcases hx with k | k; exact .inl k; exact .inr (.inl k)
  obtain ⟨u, r, l⟩ := hl i x v hi e1 vis
  refine wpAny_AugAssign_Name ?_
  have go : wpAny (model X.prog X.w) X.A (eval e X.env) (fun w s₂ => wpAny (model X.prog X.w) X.A (inplaceOp op u w) (fun r s₃ => wpAny (model X.prog X.w) X.A (storeName X.env x r) (fun _ => SP X pins D .next) X.xe s₃) X.xe s₂) X.xe s := by
    refine thn (he pins s σ H _ I h) fun w s1 hh => ?_
    obtain ⟨y, H1, I1, r1, q1⟩ := hh
    refine thn (ho pins s1 σ H1 v y u w _ I1 r r1 q1) fun z s2 hh => ?_
    obtain ⟨zv, H2, I2, r2, q2⟩ := hh
    exact store_ok I2 hN hi hx r2 (fun s3 I3 => ⟨_, H2, I3, q2⟩) hf
  rcases l with ⟨hk, hm⟩ | ⟨hk, c, hc, hcell⟩
  · exact wpAny_loadName_local I.ok.kind hk hn hm go
  · rcases hk with hk | hk
    · exact wpAny_loadName_cell I.ok.kind hk hc hcell go
    · rcases hx with k | k
      · have : X.env.scope.names.lookup x = some .free := hk
        rw [k] at this; cases this
      · have : X.env.scope.names.lookup x = some .free := hk
        rw [k] at this; cases this
noncomputable def ipI (f : Int → Int → Int) : TIp := fun x y H Q => ∃ i j, x = .int i ∧ y = .int j ∧ Q (.int (f i j)) H
theorem ip_add : PIp X .Add (ipI fun i j => i + j) := by
  intro pins s σ H x y v u Q I r1 r2 h
  obtain ⟨i, j, e1, e2, q⟩ := h
  subst e1; subst e2
  obtain ⟨t, rfl⟩ := r1
  obtain ⟨t', rfl⟩ := r2
  exact iadd_int ⟨.int _, H, I.tok _, ⟨_, rfl⟩, q⟩
end
section
variable {X : Cx} {pos : Pos}
noncomputable def tWhile (c : TT) (tb : TS) : TS := fun D σ H => ∃ W : Nat → St → Hp → Prop, (∃ m, W m σ H) ∧ ∀ m σ H, W m σ H →
  c σ H fun b H1 => if b = true then ∃ N : St → Hp → Prop, (∀ σ' H', N σ' H' → ∃ m', m' < m ∧ W m' σ' H') ∧ tb { D with nx := N, ct := N, bk := D.nx } σ H1 else D.nx σ H1
theorem ps_while {c : Expr} {body : List Stmt} {tc : TT} {tb : TS} (hp : PassesOwn (model X.prog X.w) X.A X.env X.xe) (hc : PT X c tc) (hb : PSs X body tb) : PS X (.While c body [] pos) (tWhile tc tb) := by
  intro pins s σ H D I h
  obtain ⟨W, ⟨m0, w0⟩, turn⟩ := h
  refine wpAny_While (codeAny_whileLoop (fun n s' => ∃ σ' H', Inv X pins σ' H' s' ∧ W n σ' H') ?_ m0 ⟨σ, H, I, w0⟩)
  rintro n s1 ⟨σ1, H1, I1, w1⟩
  refine wpAny_passesOwn hp (thn (hc pins s1 σ1 H1 _ I1 (turn n σ1 H1 w1)) fun b s2 hh => ?_)
  obtain ⟨H2, I2, q2⟩ := hh
  cases b with
  | true =>
    obtain ⟨N, hN, q2⟩ := q2
    rw [if_pos rfl]
    refine wpAny_passesOwn hp (thn (hb pins s2 σ1 H2 _ I2 q2) fun f s3 q3 => ?_)
    cases f with
    | next =>
      obtain ⟨σ3, H3, I3, n3⟩ := q3
      obtain ⟨m', hm, w3⟩ := hN σ3 H3 n3
      exact ⟨m', hm, σ3, H3, I3, w3⟩
    | cont =>
      obtain ⟨σ3, H3, I3, n3⟩ := q3
      obtain ⟨m', hm, w3⟩ := hN σ3 H3 n3
      exact ⟨m', hm, σ3, H3, I3, w3⟩
    | brk => exact q3
    | ret v => exact q3
  | false =>
    rw [if_neg Bool.false_ne_true]
    exact wpAny_execs_nil ⟨σ1, H2, I2, q2⟩
end
structure It where
  go : Nat → Hp → Prop
  yld : Nat → Hp → V → Hp → Prop
  stop : Nat → Hp → Prop
noncomputable def FpOk (X : Cx) (pins : List (Addr × Obj)) (H : Hp) (b : Addr) : Prop :=
  H b = none ∧ b ≠ X.env.locals ∧ b ∉ X.fs ∧ (b ∈ X.ex ∨ X.s₀.heap.objs.size ≤ b) ∧ (∀ x c, X.env.cells.lookup x = some c → c ≠ b) ∧ ∀ p ∈ X.pn ++ pins, p.1 ≠ b
theorem Inv.fpOk {X : Cx} {pins : List (Addr × Obj)} {σ : St} {H H' : Hp} {s : Shared} {b : Addr} (I : Inv X pins σ H s) (hb : s.heap.objs.size ≤ b) (hn : H' b = none) : FpOk X pins H' b := by
  refine ⟨hn, Nat.ne_of_gt (Nat.lt_of_lt_of_le I.lt hb), I.nofs hb, .inr (Nat.le_trans I.sz hb), fun x c e z => ?_, fun p hp z => ?_⟩
  · obtain ⟨v, q⟩ := I.cell x c e
    exact absurd (Nat.lt_of_lt_of_le q.lt (by rw [z]; exact hb)) (Nat.lt_irrefl _)
  · exact absurd (Nat.lt_of_lt_of_le (Heap.lt_size (I.pin p hp).1) (by rw [z]; exact hb)) (Nat.lt_irrefl _)
structure Turn (P : Program) (w : World) (K : PySem.W.Frag) (tg : Expr) (J : It) (fp : List Addr) (it : Addr) (tn : Nat → Heap → Prop) : Prop where
  mem : it ∈ fp
  obj : ∀ i h, tn i h → ∀ b ∈ fp, ∃ o, h.get? b = some o ∧ ∀ v, o.data ≠ .cell v
  keep : ∀ i h h', tn i h → (∀ b ∈ fp, ∀ o, h.get? b = some o → h'.get? b = some o) → tn i h'
  item : ∀ (X : Cx), X.prog = P → X.w = w → X.K = K → X.calm = true → ∀ (i : Nat) (pins : List (Addr × Obj)) (s : Shared) (σ : St) (H : Hp) (E : Value → Shared → Prop), Inv X pins σ H s → (∀ b ∈ fp, FpOk X pins H b) → tn i s.heap → J.go i H →
    wpAny (model P w) X.A (pyNext (.ref it)) (fun r s1 => ∃ u, r = some u ∧
      wpAny (model P w) X.A (letOwnedTupleGo tg (.ref it) u) (fun _ s2 => ∃ x H', Inv X pins σ H' s2 ∧ RelV x u ∧ J.yld i H x H' ∧ tn (i + 1) s2.heap ∧ ∀ b ∈ fp, H' b = none) E s1) E s
  done : ∀ (X : Cx), X.prog = P → X.w = w → X.K = K → X.calm = true → ∀ (i : Nat) (pins : List (Addr × Obj)) (s : Shared) (σ : St) (H : Hp) (E : Value → Shared → Prop), Inv X pins σ H s → (∀ b ∈ fp, FpOk X pins H b) → tn i s.heap → J.stop i H →
    wpAny (model P w) X.A (pyNext (.ref it)) (fun r s1 => r = none ∧ Inv X pins σ H s1) E s
  self : ∀ (A : Around) (i : Nat) (s : Shared) (Q : Value → Shared → Prop) (E : Value → Shared → Prop), tn i s.heap → Q (.ref it) s → wpAny (model P w) A (pyIter (.ref it)) Q E s
noncomputable abbrev TI := St → Hp → (It → Hp → Prop) → Prop
noncomputable def PIE (X : Cx) (pins : List (Addr × Obj)) (σ : St) (tg : Expr) (R : It → Hp → Prop) (itv : Value) (s2 : Shared) : Prop :=
  ∃ (it : Addr) (fp : List Addr) (tn : Nat → Heap → Prop) (J : It) (H' : Hp), itv = .ref it ∧ Inv X pins σ H' s2 ∧ Turn X.prog X.w X.K tg J fp it tn ∧ tn 0 s2.heap ∧ (∀ b ∈ fp, FpOk X pins H' b) ∧ R J H'
noncomputable def PI (X : Cx) (tg iter : Expr) (wi : TI) : Prop :=
  ∀ (pins : List (Addr × Obj)) (s : Shared) (σ : St) (H : Hp) (R : It → Hp → Prop), Inv X pins σ H s → wi σ H R →
    wpAny (model X.prog X.w) X.A (eval iter X.env) (fun v s1 => wpAny (model X.prog X.w) X.A (pyIter v) (PIE X pins σ tg R) X.xe s1) X.xe s
theorem go_of {M : Model} {A : Around} {E : Value → Shared → Prop} {s : Shared} {tg : Expr} {it : Addr} {u : Value} {o : Obj} {n : String} {vs : Array Value} {Q : Unit → Shared → Prop} (ho : s.heap.get? it = some o) (hc : o.cls = .type n) (hd : o.data = .fields vs)
    (hn : ["enumerate", "zip", "dict_itemiterator", "dict_reverseitemiterator", "odict_iterator", "itertools.zip_longest", "itertools.pairwise"].contains n = false) (hQ : Q () s) : wpAny M A (letOwnedTupleGo tg (.ref it) u) Q E s := by
  unfold letOwnedTupleGo
  cases tg <;> first
    | exact wpAny_pure hQ
    | (cases u <;> first
        | exact wpAny_pure hQ
        | (refine wpAny_bind (wpAny_load ho ?_)
           rw [hc, hd]
           show wpAny M A (if (["enumerate", "zip", "dict_itemiterator", "dict_reverseitemiterator", "odict_iterator", "itertools.zip_longest", "itertools.pairwise"].contains n && vs[0]? == some (rawInt _)) = true then _ else _) Q E s
           rw [if_neg (by intro h; rw [hn, Bool.false_and] at h; cases h)]
           exact wpAny_pure hQ))
noncomputable def Itl (K : PySem.W.Frag) (a : Addr) : It :=
  ⟨fun i H => ∃ xs x, SqL K H a xs ∧ xs[i]? = some x, fun i H x H' => H' = H ∧ ∀ xs, SqL K H a xs → xs[i]? = some x, fun i H => ∃ xs, SqL K H a xs ∧ xs.length ≤ i⟩
noncomputable def Itt (K : PySem.W.Frag) (a : Addr) : It :=
  ⟨fun i H => ∃ xs x, SqT K H a xs ∧ xs[i]? = some x, fun i H x H' => H' = H ∧ ∀ xs, SqT K H a xs → xs[i]? = some x, fun i H => ∃ xs, SqT K H a xs ∧ xs.length ≤ i⟩
noncomputable def Itr (lo : Int) (n : Nat) : It := ⟨fun i _ => i < n, fun i H x H' => H' = H ∧ x = .int (lo + i), fun i _ => n ≤ i⟩
theorem turn_list {P : Program} {w : World} {K : PySem.W.Frag} {tg : Expr} (a it : Addr) : Turn P w K tg (Itl K a) [it] it (fun i h => h.IsListIter it a i) where
  mem := by simp
  obj := fun i h st b hb => by
    have e : b = it := by simpa using hb
    subst e
    obtain ⟨o, e, c, d⟩ := st
    exact ⟨o, e, fun v z => by rw [d] at z; cases z⟩
  keep := fun i h h' st k => st.at fun o e => k it (by simp) o e
  item := by
    intro X hP hw hK hc i pins s σ H E I hf st hg
    subst hP hw hK
    obtain ⟨xs, x, hq, hx⟩ := hg
    obtain ⟨its, rv, p, hz⟩ := I.list hq
    obtain ⟨u, hu, ru⟩ := rv.get hx
    obtain ⟨f0, f1, f2, f3, f4, f5⟩ := hf it (by simp)
    refine wpAny_pyNext_list_item st p.isList (x := u) (by simpa using hu) fun h' st' sb => ?_
    have I1 : Inv X pins σ H { s with heap := h' } := I.turned (t' := s.toks) (fun b o hb e => (sb.2 b hb).trans e) f0 f1 f3 f4 f5
    obtain ⟨o, e, c, d⟩ := id st'
    exact ⟨u, rfl, go_of (s := { s with heap := h' }) e c d (by decide) ⟨x, H, I1, ru, ⟨rfl, fun ys hy => by rw [I.list_inj hy hq]; exact hx⟩, st', fun b hb => (hf b hb).1⟩⟩
  done := by
    intro X hP hw hK hc i pins s σ H E I hf st hg
    subst hP hw hK
    obtain ⟨xs, hq, hx⟩ := hg
    obtain ⟨its, rv, p, hz⟩ := I.list hq
    obtain ⟨f0, f1, f2, f3, f4, f5⟩ := hf it (by simp)
    have hl := rv.length
    exact wpAny_pyNext_list_end (I.ok.hd hc) st p.isList (by simp; (first | lia | omega)) fun h' eb => ⟨rfl, I.turned (t' := s.toks) (fun b o hb e => eb b o hb e) f0 f1 f3 f4 f5⟩
  self := fun _ _ _ _ _ st h => wpAny_pyIter_listiter st h
theorem turn_tuple {P : Program} {w : World} {K : PySem.W.Frag} {tg : Expr} (a it : Addr) : Turn P w K tg (Itt K a) [it] it (fun i h => h.IsTupleIter it a i) where
  mem := by simp
  obj := fun i h st b hb => by
    have e : b = it := by simpa using hb
    subst e
    obtain ⟨o, e, c, d⟩ := st
    exact ⟨o, e, fun v z => by rw [d] at z; cases z⟩
  keep := fun i h h' st k => st.at fun o e => k it (by simp) o e
  item := by
    intro X hP hw hK hc i pins s σ H E I hf st hg
    subst hP hw hK
    obtain ⟨xs, x, hq, hx⟩ := hg
    obtain ⟨its, rv, p, hz⟩ := I.tuple hq
    obtain ⟨u, hu, ru⟩ := rv.get hx
    obtain ⟨f0, f1, f2, f3, f4, f5⟩ := hf it (by simp)
    refine wpAny_pyNext_tuple_item st (show s.heap.IsTuple a its.toArray from p) (x := u) (by simpa using hu) fun h' st' sb => ?_
    have I1 : Inv X pins σ H { s with heap := h' } := I.turned (t' := s.toks) (fun b o hb e => (sb.2 b hb).trans e) f0 f1 f3 f4 f5
    obtain ⟨o, e, c, d⟩ := id st'
    exact ⟨u, rfl, go_of (s := { s with heap := h' }) e c d (by decide) ⟨x, H, I1, ru, ⟨rfl, fun ys hy => by rw [I.tuple_inj hy hq]; exact hx⟩, st', fun b hb => (hf b hb).1⟩⟩
  done := by
    intro X hP hw hK hc i pins s σ H E I hf st hg
    subst hP hw hK
    obtain ⟨xs, hq, hx⟩ := hg
    obtain ⟨its, rv, p, hz⟩ := I.tuple hq
    obtain ⟨f0, f1, f2, f3, f4, f5⟩ := hf it (by simp)
    have hl := rv.length
    exact wpAny_pyNext_tuple_end (I.ok.hd hc) st (show s.heap.IsTuple a its.toArray from p) (by simp; (first | lia | omega)) fun h' eb => ⟨rfl, I.turned (t' := s.toks) (fun b o hb e => eb b o hb e) f0 f1 f3 f4 f5⟩
  self := fun _ _ _ _ _ st h => wpAny_pyIter_tupleiter st h
theorem turn_range {P : Program} {w : World} {K : PySem.W.Frag} {tg : Expr} (it : Addr) (lo : Int) (n : Nat) : Turn P w K tg (Itr lo n) [it] it (fun i h => IsRangeIter h it (lo + (i : Nat) * 1) ((n : Int) - (i : Nat)) 1) where
  mem := by simp
  obj := fun i h st b hb => by
    have e : b = it := by simpa using hb
    subst e
    exact ⟨_, st, fun v z => by
      have z' : Data.fields _ = Data.cell v := z
      cases z'⟩
  keep := fun i h h' st k => k it (by simp) _ st
  item := by
    intro X hP hw hK hc i pins s σ H E I hf st hg
    subst hP hw hK
    obtain ⟨f0, f1, f2, f3, f4, f5⟩ := hf it (by simp)
    have W := Walks.range (prog := X.prog) (w := X.w) (I.ok.hd hc) it lo 1 n
    refine W.item i s _ _ hg st fun v h' tk hv st' kk => ?_
    obtain ⟨t, rfl⟩ := hv
    have I1 : Inv X pins σ H { s with heap := h', toks := tk } := I.turned (fun b o hb e => kk b o (by simpa using hb) e) f0 f1 f3 f4 f5
    refine ⟨_, rfl, go_of (s := { s with heap := h', toks := tk }) (n := "range_iterator") st' rfl rfl (by decide) ⟨.int (lo + i), H, I1, ⟨t, ?_⟩, ⟨rfl, rfl⟩, st', fun b hb => (hf b hb).1⟩⟩
    rw [Int.mul_one]
  done := by
    intro X hP hw hK hc i pins s σ H E I hf st hg
    subst hP hw hK
    obtain ⟨f0, f1, f2, f3, f4, f5⟩ := hf it (by simp)
    exact wpAny_pyNext_range_end (I.ok.hd hc) st (by have : n ≤ i := hg; (first | lia | omega)) fun h' eb => ⟨rfl, I.turned (t' := s.toks) (fun b o hb e => eb b o hb e) f0 f1 f3 f4 f5⟩
  self := fun _ _ _ _ _ st h => wpAny_pyIter_rangeiter st h
end L2
namespace L2
open PySem PySem.Spec PyProof.Rows
section
variable {X : Cx} {tg : Expr}
theorem range_it {pins : List (Addr × Obj)} {σ : St} {H : Hp} {s : Shared} {R : It → Hp → Prop} {E : Value → Shared → Prop} {lo hi : Int} {t u v : Tok} {tk : Nat} (I : Inv X pins σ H s) (h1 : -(2 ^ 62) ≤ lo) (h2 : lo < 2 ^ 62) (h3 : -(2 ^ 62) ≤ hi) (h4 : hi < 2 ^ 62)
    (q : R (Itr lo (hi - lo).toNat) H) : wpAny (model X.prog X.w) X.A (pyIter (.ref s.heap.objs.size)) (PIE X pins σ tg R) E { s with heap := s.heap.push { cls := .type "range", data := .fields #[.int lo t, .int hi u, .int 1 v] }, toks := tk } := by
  refine wpAny_pyIter_range (IsRange.new ..) (small_one h1 h2 h3 h4) ?_
  have I1 : Inv X pins σ H { s with heap := s.heap.push { cls := .type "range", data := .fields #[.int lo t, .int hi u, .int 1 v] }, toks := tk } := I.kept fun b o e => Heap.get?_push_of_some _ e
  refine ⟨(s.heap.push { cls := .type "range", data := .fields #[.int lo t, .int hi u, .int 1 v] }).objs.size, [(s.heap.push { cls := .type "range", data := .fields #[.int lo t, .int hi u, .int 1 v] }).objs.size], _, _, H, rfl,
    I1.kept (t' := tk) fun b o e => Heap.get?_push_of_some _ e, turn_range _ lo (hi - lo).toNat, ?_, fun b hb => ?_, q⟩
  · have e1 : lo + ((0 : Nat) : Int) * 1 = lo := by simp
    have e2 : (((hi - lo).toNat : Nat) : Int) - ((0 : Nat) : Int) = Builtin.Range.rangeSize lo hi 1 := by rw [rangeSize_one]; split <;> (first | lia | omega)
    show IsRangeIter _ _ (lo + ((0 : Nat) : Int) * 1) ((((hi - lo).toNat : Nat) : Int) - ((0 : Nat) : Int)) 1
    rw [e1, e2]
    exact Heap.get?_push_size _ rfl
  · have e : b = (s.heap.push { cls := .type "range", data := .fields #[.int lo t, .int hi u, .int 1 v] }).objs.size := by simpa using hb
    subst e
    exact I1.fpOk (Nat.le_refl _) (I1.hok.fresh (Nat.le_refl _))
noncomputable def iRng1 (ta : TA) : TI := fun σ H R => ta σ H fun vs H1 => ∃ j : Int, vs = [.int j] ∧ -(2 ^ 62) ≤ j ∧ j < 2 ^ 62 ∧ R (Itr 0 j.toNat) H1
theorem pi_range1 {a : Expr} {ta : TA} {p pos : Pos} (hg : Gl X "range") (hm : X.mg "range" = none) (ha : PA X [a] ta) (hs : starEach [a] X.env = [(false, eval a X.env)] := by rfl) : PI X tg (.Call (.Name "range" p) [a] [] pos) (iRng1 ta) := by
  intro pins s σ H R I h
  refine Call_ (ld_blt I hg hm boot_range (PyProof.Rows.callWith_type1 (thn (ha pos pins s σ H _ I h) fun us s1 ⟨vs, H1, I1, r1, q1⟩ => ?_) hs rfl))
  obtain ⟨j, e, q1, q2, q⟩ := q1
  subst e
  cases r1 with
  | cons r rr =>
    cases rr
    obtain ⟨t, rfl⟩ := r
    exact call_range_1 (range_it I1 (by (first | lia | omega)) (by (first | lia | omega)) q1 q2 (by simpa using q))
noncomputable def tFor (wi : TI) (g : TG) (tb : TS) : TS := fun D σ H => wi σ H fun J H1 => ∃ W : Nat → Nat → St → Hp → Prop, (∃ m, W 0 m σ H1) ∧ ∀ i m σ H, W i m σ H →
  (J.stop i H ∧ D.nx σ H) ∨ (J.go i H ∧ ∃ N : St → Hp → Prop, (∀ σ' H', N σ' H' → ∃ m', m' < m ∧ W (i + 1) m' σ' H') ∧ ∀ x H', J.yld i H x H' → g x σ H' fun σ2 H2 => tb { D with nx := N, ct := N, bk := D.nx } σ2 H2)
noncomputable def pinsAt (fp : List Addr) (h : Heap) : List (Addr × Obj) := fp.filterMap fun b => (h.get? b).map fun o => (b, o)
theorem mem_pinsAt {fp : List Addr} {h : Heap} {b : Addr} {o : Obj} (hb : b ∈ fp) (e : h.get? b = some o) : (b, o) ∈ pinsAt fp h := List.mem_filterMap.mpr ⟨b, hb, by rw [e]; rfl⟩
theorem of_pinsAt {fp : List Addr} {h : Heap} {p : Addr × Obj} (hp : p ∈ pinsAt fp h) : p.1 ∈ fp ∧ h.get? p.1 = some p.2 := by
  obtain ⟨b, hb, e⟩ := List.mem_filterMap.mp hp
  cases q : h.get? b with
  | none => rw [q] at e; cases e
  | some o =>
    rw [q] at e
    have e' : (b, o) = p := Option.some.inj e
    subst e'
    exact ⟨hb, q⟩
theorem Inv.pinned {pins : List (Addr × Obj)} {σ : St} {H : Hp} {s : Shared} {fp : List Addr} (I : Inv X pins σ H s) (hf : ∀ b ∈ fp, FpOk X pins H b) (ho : ∀ b ∈ fp, ∃ o, s.heap.get? b = some o ∧ ∀ v, o.data ≠ .cell v) : Inv X (pins ++ pinsAt fp s.heap) σ H s :=
  I.pins_of fun p hp => (List.mem_append.mp hp).elim (fun z => I.pin p (List.mem_append_right _ z)) fun z => by
    obtain ⟨hb, e⟩ := of_pinsAt z
    obtain ⟨f0, f1, f2, _⟩ := hf p.1 hb
    obtain ⟨o, e', d⟩ := ho p.1 hb
    rw [e] at e'; cases e'
    exact ⟨e, f0, f1, f2, d⟩
theorem Inv.unpinned {pins pl : List (Addr × Obj)} {σ : St} {H : Hp} {s : Shared} (I : Inv X (pins ++ pl) σ H s) : Inv X pins σ H s := I.pins_of fun p hp => I.pin p (List.mem_append_right _ (List.mem_append_left _ hp))
theorem ps_for {iter : Expr} {body : List Stmt} {wi : TI} {g : TG} {tb : TS} {pos : Pos} (hp : PassesOwn (model X.prog X.w) X.A X.env X.xe) (hc : X.calm = true) (hi : PI X tg iter wi) (hg : PG X tg g) (hb : PSs X body tb)
    (hs : ∀ x, foldedSetIterable iter X.env x = pure x := by intro _; rfl) : PS X (.For tg iter body [] pos) (tFor wi g tb) := by
  intro pins s σ H D I h
  refine wpAny_For (thn (hi pins s σ H _ I h) fun v s1 h1 => thn h1 fun itv s2 h2 => ?_) hs
  obtain ⟨it, fp, tn, J, H2, e, I2, T, st2, f2, W, ⟨m0, w0⟩, turn⟩ := h2
  subst e
  -- what stays true of the iterator's objects through the loop
  have stat : ∀ {H' : Hp}, (∀ b ∈ fp, H' b = none) → ∀ b ∈ fp, FpOk X pins H' b := fun hn b hb => ⟨hn b hb, (f2 b hb).2⟩
  refine codeAny_forLoop_any (fun n s' => ∃ i σ' H', Inv X pins σ' H' s' ∧ tn i s'.heap ∧ (∀ b ∈ fp, H' b = none) ∧ W i n σ' H') ?_ m0 ⟨0, σ, H2, I2, st2, fun b hb => (f2 b hb).1, w0⟩
  rintro n s3 ⟨i, σ3, H3, I3, st3, fr3, w3⟩
  rcases turn i n σ3 H3 w3 with ⟨stop, qn⟩ | ⟨go, N, hN, step⟩
  · refine wpAny_passesOwn hp (thn (T.done X rfl rfl rfl hc i pins s3 σ3 H3 X.xe I3 (stat fr3) st3 stop) fun r s4 hh => ?_)
    obtain ⟨hr, I4⟩ := hh
    subst hr
    exact wpAny_execs_nil ⟨σ3, H3, I4, qn⟩
  · refine wpAny_passesOwn hp (thn (T.item X rfl rfl rfl hc i pins s3 σ3 H3 X.xe I3 (stat fr3) st3 go) fun r s4 hh => ?_)
    obtain ⟨u, hr, h4⟩ := hh
    subst hr
    refine wpAny_passesOwn hp (thn h4 fun _ s5 hh => ?_)
    obtain ⟨x, H5, I5, r5, y5, st5, fr5⟩ := hh
    have I5' := I5.pinned (stat fr5) (T.obj _ _ st5)
    refine wpAny_passesOwn hp (thn (hg _ s5 σ3 H5 x u _ I5' r5 (step x H5 y5)) fun _ s6 hh => ?_)
    obtain ⟨σ6, H6, I6, q6⟩ := hh
    refine wpAny_passesOwn hp (thn (hb _ s6 σ6 H6 _ I6 q6) fun f s7 q7 => ?_)
    have again : ∀ {σ7 : St} {H7 : Hp}, Inv X (pins ++ pinsAt fp s5.heap) σ7 H7 s7 → N σ7 H7 → ∃ m, m < n ∧ ∃ i σ' H', Inv X pins σ' H' s7 ∧ tn i s7.heap ∧ (∀ b ∈ fp, H' b = none) ∧ W i m σ' H' := fun {σ7 H7} I7 n7 => by
      obtain ⟨m', hm, w7⟩ := hN σ7 H7 n7
      refine ⟨m', hm, i + 1, σ7, H7, I7.unpinned, T.keep _ _ _ st5 fun b hb o e => (I7.pin (b, o) (List.mem_append_right _ (List.mem_append_right _ (mem_pinsAt hb e)))).1, fun b hb => ?_, w7⟩
      obtain ⟨o, e, d⟩ := T.obj _ _ st5 b hb
      exact (I7.pin (b, o) (List.mem_append_right _ (List.mem_append_right _ (mem_pinsAt hb e)))).2.1
    cases f with
    | next => obtain ⟨σ7, H7, I7, n7⟩ := q7; exact again I7 n7
    | cont => obtain ⟨σ7, H7, I7, n7⟩ := q7; exact again I7 n7
    | brk => obtain ⟨σ7, H7, I7, q7⟩ := q7; exact ⟨σ7, H7, I7.unpinned, q7⟩
    | ret v => obtain ⟨x7, σ7, H7, I7, r7, q7⟩ := q7; exact ⟨x7, σ7, H7, I7.unpinned, r7, q7⟩
end
theorem for_list {K : PySem.W.Frag} {a : Addr} {xs : List V} {g : TG} {tb : TS} {D : Ends} {σ : St} {H : Hp} (Pv : Nat → St → Hp → Prop) (h0 : Pv 0 σ H) (hl : ∀ i σ H, i ≤ xs.length → Pv i σ H → SqL K H a xs)
    (hs : ∀ i x σ H, xs[i]? = some x → Pv i σ H → g x σ H fun σ2 H2 => tb { D with nx := Pv (i + 1), ct := Pv (i + 1), bk := D.nx } σ2 H2) (hd : ∀ σ H, Pv xs.length σ H → D.nx σ H) :
    ∃ W : Nat → Nat → St → Hp → Prop, (∃ m, W 0 m σ H) ∧ ∀ i m σ H, W i m σ H →
      ((Itl K a).stop i H ∧ D.nx σ H) ∨ ((Itl K a).go i H ∧ ∃ N : St → Hp → Prop, (∀ σ' H', N σ' H' → ∃ m', m' < m ∧ W (i + 1) m' σ' H') ∧ ∀ x H', (Itl K a).yld i H x H' → g x σ H' fun σ2 H2 => tb { D with nx := N, ct := N, bk := D.nx } σ2 H2) := by
  refine ⟨fun i m σ H => m = xs.length - i ∧ i ≤ xs.length ∧ Pv i σ H, ⟨xs.length, by simp, Nat.zero_le _, h0⟩, ?_⟩
  rintro i m σ H ⟨rfl, hi, p⟩
  have q := hl i σ H hi p
  by_cases hlt : i < xs.length
  · refine .inr ⟨⟨xs, xs[i], q, by simp [hlt]⟩, Pv (i + 1), fun σ' H' p' => ⟨xs.length - (i + 1), by (first | lia | omega), rfl, hlt, p'⟩, fun x H' y => ?_⟩
    obtain ⟨e, y⟩ := y
    subst e
    exact hs i x σ _ (y xs q) p
  · have e : i = xs.length := by (first | lia | omega)
    subst e
    exact .inl ⟨⟨xs, q, Nat.le_refl _⟩, hd σ H p⟩
theorem for_range {lo : Int} {n : Nat} {g : TG} {tb : TS} {D : Ends} {σ : St} {H : Hp} (Pv : Nat → St → Hp → Prop) (h0 : Pv 0 σ H)
    (hs : ∀ i σ H, i < n → Pv i σ H → g (.int (lo + i)) σ H fun σ2 H2 => tb { D with nx := Pv (i + 1), ct := Pv (i + 1), bk := D.nx } σ2 H2) (hd : ∀ σ H, Pv n σ H → D.nx σ H) :
    ∃ W : Nat → Nat → St → Hp → Prop, (∃ m, W 0 m σ H) ∧ ∀ i m σ H, W i m σ H →
      ((Itr lo n).stop i H ∧ D.nx σ H) ∨ ((Itr lo n).go i H ∧ ∃ N : St → Hp → Prop, (∀ σ' H', N σ' H' → ∃ m', m' < m ∧ W (i + 1) m' σ' H') ∧ ∀ x H', (Itr lo n).yld i H x H' → g x σ H' fun σ2 H2 => tb { D with nx := N, ct := N, bk := D.nx } σ2 H2) := by
  refine ⟨fun i m σ H => m = n - i ∧ i ≤ n ∧ Pv i σ H, ⟨n, by simp, Nat.zero_le _, h0⟩, ?_⟩
  rintro i m σ H ⟨rfl, hi, p⟩
  by_cases hlt : i < n
  · refine .inr ⟨hlt, Pv (i + 1), fun σ' H' p' => ⟨n - (i + 1), by (first | lia | omega), rfl, hlt, p'⟩, fun x H' y => ?_⟩
    obtain ⟨e, y⟩ := y
    subst e y
    exact hs i σ _ hlt p
  · have e : i = n := by (first | lia | omega)
    subst e
    exact .inl ⟨Nat.le_refl _, hd σ H p⟩
end L2
namespace L2
open PySem PySem.Spec PyProof.Rows
noncomputable abbrev R2 := V → V → Hp → VK → Prop
noncomputable def OpR (X : Cx) (f : Value → Value → Sem Value) (r : R2) : Prop :=
  ∀ (pins : List (Addr × Obj)) (s : Shared) (σ : St) (H : Hp) (x y : V) (v u : Value) (Q : VK), Inv X pins σ H s → RelV x v → RelV y u → r x y H Q →
    wpAny (model X.prog X.w) X.A (f v u) (EP X pins σ Q) X.xe s
noncomputable def UnR (X : Cx) (f : Value → Sem Value) (r : V → Hp → VK → Prop) : Prop :=
  ∀ (pins : List (Addr × Obj)) (s : Shared) (σ : St) (H : Hp) (x : V) (v : Value) (Q : VK), Inv X pins σ H s → RelV x v → r x H Q →
    wpAny (model X.prog X.w) X.A (f v) (EP X pins σ Q) X.xe s
noncomputable def CallR (X : Cx) (f : Value) (r : List V → Hp → VK → Prop) : Prop :=
  ∀ (pins : List (Addr × Obj)) (s : Shared) (σ : St) (H : Hp) (xs : List V) (us : List Value) (Q : VK), Inv X pins σ H s → Vals xs us → r xs H Q →
    wpAny (model X.prog X.w) X.A (call f us) (EP X pins σ Q) X.xe s
noncomputable def TruR (X : Cx) (r : V → Hp → (Bool → Hp → Prop) → Prop) : Prop :=
  ∀ (pins : List (Addr × Obj)) (s : Shared) (σ : St) (H : Hp) (x : V) (v : Value) (Q : Bool → Hp → Prop), Inv X pins σ H s → RelV x v → r x H Q →
    wpAny (model X.prog X.w) X.A (truthy v) (TP X pins σ Q) X.xe s
noncomputable def tOp (r : R2) (ta tb : TE) : TE := fun σ H Q => ta σ H fun x H1 => tb σ H1 fun y H2 => r x y H2 Q
noncomputable def tUn (r : V → Hp → VK → Prop) (ta : TE) : TE := fun σ H Q => ta σ H fun x H1 => r x H1 Q
noncomputable def rI (C : Int → Int → Prop) (g : Int → Int → V) : R2 := fun x y H Q => ∃ i j, x = .int i ∧ y = .int j ∧ C i j ∧ Q (g i j) H
noncomputable def rI0 (g : Int → Int → V) : R2 := fun x y H Q => ∃ i j, x = .int i ∧ y = .int j ∧ Q (g i j) H
noncomputable def rU (g : Int → V) : V → Hp → VK → Prop := fun x H Q => ∃ i, x = .int i ∧ Q (g i) H
section
variable {X : Cx} {a b c : Expr} {ta tb tc : TE} {pos : Pos}
theorem binT (ha : PE X a ta) (hb : PE X b tb) {pins : List (Addr × Obj)} {s : Shared} {σ : St} {H : Hp} {R : V → V → Hp → Prop} (I : Inv X pins σ H s)
    (h : ta σ H fun x H1 => tb σ H1 fun y H2 => R x y H2) {Q : Value → Shared → Prop} {f : Value → Value → Sem Value}
    (hf : ∀ v u s2 x y H2, Inv X pins σ H2 s2 → RelV x v → RelV y u → R x y H2 → wpAny (model X.prog X.w) X.A (f v u) Q X.xe s2) :
    wpAny (model X.prog X.w) X.A (eval a X.env) (fun v s₁ => wpAny (model X.prog X.w) X.A (eval b X.env) (fun u s₂ => wpAny (model X.prog X.w) X.A (f v u) Q X.xe s₂) X.xe s₁) X.xe s := by
  refine thn (ha pins s σ H _ I h) fun v s1 hh => ?_
  obtain ⟨x, H1, I1, r1, q1⟩ := hh
  refine thn (hb pins s1 σ H1 _ I1 q1) fun u s2 hh => ?_
  obtain ⟨y, H2, I2, r2, q2⟩ := hh
  exact hf v u s2 x y H2 I2 r1 r2 q2
theorem pe_op {op : Operator} {r : R2} (ho : OpR X (binaryOp op) r) (ha : PE X a ta) (hb : PE X b tb) : PE X (.BinOp a op b pos) (tOp r ta tb) := by
  intro pins s σ H Q I h
  exact wpAny_BinOp (binT ha hb I h fun v u s2 x y H2 I2 rx ry q => ho pins s2 σ H2 x y v u Q I2 rx ry q)
theorem pe_un {op : UnaryOp} {r : V → Hp → VK → Prop} (ho : UnR X (unaryOp op) r) (ha : PE X a ta) : PE X (.UnaryOp op a pos) (tUn r ta) := by
  intro pins s σ H Q I h
  exact UnaryOp_ (thn (ha pins s σ H _ I h) fun v s1 ⟨x, H1, I1, r1, q1⟩ => ho pins s1 σ H1 x v Q I1 r1 q1)
theorem opI {f : Value → Value → Sem Value} {C : Int → Int → Prop} {g : Int → Int → Int}
    (rule : ∀ (i j : Int) (t u : Tok) (s : Shared) (Q : Value → Shared → Prop) (E : Value → Shared → Prop), C i j → Q (.int (g i j) s.toks) { s with toks := s.toks + 1 } → wpAny (model X.prog X.w) X.A (f (.int i t) (.int j u)) Q E s) :
    OpR X f (rI C fun i j => .int (g i j)) := by
  intro pins s σ H x y v u Q I rx ry h
  obtain ⟨i, j, rfl, rfl, hc, q⟩ := h
  obtain ⟨t, rfl⟩ := rx
  obtain ⟨t', rfl⟩ := ry
  exact rule i j t t' s _ _ hc ⟨.int (g i j), H, I.tok _, ⟨_, rfl⟩, q⟩
theorem opI0 {f : Value → Value → Sem Value} {g : Int → Int → Int}
    (rule : ∀ (i j : Int) (t u : Tok) (s : Shared) (Q : Value → Shared → Prop) (E : Value → Shared → Prop), Q (.int (g i j) s.toks) { s with toks := s.toks + 1 } → wpAny (model X.prog X.w) X.A (f (.int i t) (.int j u)) Q E s) :
    OpR X f (rI0 fun i j => .int (g i j)) := by
  intro pins s σ H x y v u Q I rx ry h
  obtain ⟨i, j, rfl, rfl, q⟩ := h
  obtain ⟨t, rfl⟩ := rx
  obtain ⟨t', rfl⟩ := ry
  exact rule i j t t' s _ _ ⟨.int (g i j), H, I.tok _, ⟨_, rfl⟩, q⟩
theorem opB0 {f : Value → Value → Sem Value} {g : Int → Int → Bool}
    (rule : ∀ (i j : Int) (t u : Tok) (s : Shared) (Q : Value → Shared → Prop) (E : Value → Shared → Prop), Q (.bool (g i j)) s → wpAny (model X.prog X.w) X.A (f (.int i t) (.int j u)) Q E s) :
    OpR X f (rI0 fun i j => .bl (g i j)) := by
  intro pins s σ H x y v u Q I rx ry h
  obtain ⟨i, j, rfl, rfl, q⟩ := h
  obtain ⟨t, rfl⟩ := rx
  obtain ⟨t', rfl⟩ := ry
  exact rule i j t t' s _ _ ⟨.bl (g i j), H, I, rfl, q⟩
noncomputable def CPow (i j : Int) : Prop := 0 ≤ j ∧ j ≤ 1000000 ∧ i.natAbs < 2 ^ 64
noncomputable def CMul (i j : Int) : Prop := (-(2 ^ 64) < i ∧ i < 2 ^ 64) ∨ (-(2 ^ 64) < j ∧ j < 2 ^ 64)
theorem CMul.ok {i j : Int} (h : CMul i j) : IntMulOk i j := by
  rcases h with ⟨h1, h2⟩ | ⟨h1, h2⟩
  · exact .of_left (intBits_le_64 h1 h2)
  · exact .of_right (intBits_le_64 h1 h2)
theorem op_add : OpR X (binaryOp .Add) (rI0 fun i j => .int (i + j)) := opI0 fun _ _ _ _ _ _ _ q => add_int q
theorem op_sub : OpR X (binaryOp .Sub) (rI0 fun i j => .int (i - j)) := opI0 fun _ _ _ _ _ _ _ q => sub_int q
theorem op_mul : OpR X (binaryOp .Mult) (rI CMul fun i j => .int (i * j)) := opI fun _ _ _ _ _ _ _ hc q => mul_int q hc.ok
theorem op_mod : OpR X (binaryOp .Mod) (rI (fun _ j => 0 < j) fun i j => .int (i % j)) := opI fun i j _ _ _ _ _ hc q => by
  have h1 : (0 : Int) < j := hc
  exact mod_int' (by (first | lia | omega)) (by rw [Int.fmod_eq_emod_of_nonneg i (by (first | lia | omega))]; exact q)
theorem op_pow : OpR X (binaryOp .Pow) (rI CPow fun i j => .int (i ^ j.toNat)) := opI fun _ _ _ _ _ _ _ hc q => pow_int_small hc.1 hc.2.1 hc.2.2 q
theorem unI {f : Value → Sem Value} {g : Int → Int}
    (rule : ∀ (i : Int) (t : Tok) (s : Shared) (Q : Value → Shared → Prop) (E : Value → Shared → Prop), Q (.int (g i) s.toks) { s with toks := s.toks + 1 } → wpAny (model X.prog X.w) X.A (f (.int i t)) Q E s) :
    UnR X f (rU fun i => .int (g i)) := by
  intro pins s σ H x v Q I rx h
  obtain ⟨i, rfl, q⟩ := h
  obtain ⟨t, rfl⟩ := rx
  exact rule i t s _ _ ⟨.int (g i), H, I.tok _, ⟨_, rfl⟩, q⟩
theorem un_neg : UnR X (unaryOp .USub) (rU fun i => .int (-i)) := unI fun _ _ _ _ _ q => neg_int q
end
noncomputable def scal : V → V → Bool
  | .non, .non => true | .non, .int _ => true | .int _, .non => true | .non, .bl _ => true | .bl _, .non => true | .non, .str _ => true | .str _, .non => true
  | .int _, .int _ => true | .bl _, .bl _ => true | .str _, .str _ => true | .byt _, .byt _ => true
  | .int _, .str _ => true | .str _, .int _ => true | .bl _, .str _ => true | .str _, .bl _ => true
  | _, _ => false
noncomputable def rEq : R2 := fun x y H Q => scal x y = true ∧ Q (.bl (decide (x = y))) H
noncomputable def rNe : R2 := fun x y H Q => scal x y = true ∧ Q (.bl (!decide (x = y))) H
theorem dec_int {i j : Int} : decide (V.int i = V.int j) = (i == j) := by
  rw [Bool.eq_iff_iff]
  simp
theorem dec_bl {i j : Bool} : decide (V.bl i = V.bl j) = (i == j) := by
  rw [Bool.eq_iff_iff]
  simp
theorem dec_str {i j : Str} : decide (V.str i = V.str j) = (i == j) := by
  rw [Bool.eq_iff_iff]
  simp
theorem dec_byt {i j : Array UInt8} : decide (V.byt i = V.byt j) = (i.toList == j.toList) := by
  rw [Bool.eq_iff_iff]
  cases i
  cases j
  simp
section
variable {X : Cx} {a b c : Expr} {ta tb tc : TE} {pos : Pos}
theorem fin_bl {pins : List (Addr × Obj)} {σ : St} {H : Hp} {s : Shared} {Q : VK} {k k' : Bool} (I : Inv X pins σ H s) (q : Q (.bl k) H) (e : k = k') : EP X pins σ Q (.bool k') s := by
  subst e
  exact ⟨.bl k, H, I, rfl, q⟩
theorem op_eq : OpR X (compareOp .Eq) rEq := by
  intro pins s σ H x y v u Q I rx ry h
  obtain ⟨hs, q⟩ := h
  cases x with
  | non =>
    cases rx
    cases y with
    | non => cases ry; exact PySem.EqNone.eq_none_none (fin_bl I q (by simp))
    | bl j => cases ry; exact PySem.EqNone.eq_none_bool (fin_bl I q (by simp))
    | int j => obtain ⟨t', rfl⟩ := ry; exact PySem.EqNone.eq_none_int (fin_bl I q (by simp))
    | str j => obtain ⟨t', rfl⟩ := ry; exact PySem.EqNone.eq_none_str (fin_bl I q (by simp))
    | _ => exact absurd (show false = true from hs) Bool.false_ne_true
  | bl i =>
    cases rx
    cases y with
    | non => cases ry; exact PySem.EqNone.eq_bool_none (fin_bl I q (by simp))
    | bl j => cases ry; exact eq_bool (fin_bl I q dec_bl)
    | str j => obtain ⟨t', rfl⟩ := ry; exact PySem.EqMixed.eq_bool_str (fin_bl I q (by simp))
    | _ => exact absurd (show false = true from hs) Bool.false_ne_true
  | int i =>
    obtain ⟨t, rfl⟩ := rx
    cases y with
    | non => cases ry; exact PySem.EqNone.eq_int_none (fin_bl I q (by simp))
    | int j => obtain ⟨t', rfl⟩ := ry; exact eq_int (fin_bl I q dec_int)
    | str j => obtain ⟨t', rfl⟩ := ry; exact PySem.EqMixed.eq_int_str (fin_bl I q (by simp))
    | _ => exact absurd (show false = true from hs) Bool.false_ne_true
  | str i =>
    obtain ⟨t, rfl⟩ := rx
    cases y with
    | non => cases ry; exact PySem.EqNone.eq_str_none (fin_bl I q (by simp))
    | bl j => cases ry; exact PySem.EqMixed.eq_str_bool (fin_bl I q (by simp))
    | int j => obtain ⟨t', rfl⟩ := ry; exact PySem.EqMixed.eq_str_int (fin_bl I q (by simp))
    | str j => obtain ⟨t', rfl⟩ := ry; exact eq_str (fin_bl I q dec_str)
    | _ => exact absurd (show false = true from hs) Bool.false_ne_true
  | byt i =>
    obtain ⟨t, rfl⟩ := rx
    cases y with
    | byt j => obtain ⟨t', rfl⟩ := ry; exact PySem.W.eq_bytes (fin_bl I q dec_byt)
    | _ => exact absurd (show false = true from hs) Bool.false_ne_true
  | _ => cases y <;> exact absurd (show false = true from hs) Bool.false_ne_true
theorem op_ne : OpR X (compareOp .NotEq) rNe := by
  intro pins s σ H x y v u Q I rx ry h
  obtain ⟨hs, q⟩ := h
  cases x with
  | non =>
    cases rx
    cases y with
    | non => cases ry; exact PySem.EqNone.ne_none_none (fin_bl I q (by simp))
    | bl j => cases ry; exact PySem.EqNone.ne_none_bool (fin_bl I q (by simp))
    | int j => obtain ⟨t', rfl⟩ := ry; exact PySem.EqNone.ne_none_int (fin_bl I q (by simp))
    | str j => obtain ⟨t', rfl⟩ := ry; exact PySem.EqNone.ne_none_str (fin_bl I q (by simp))
    | _ => exact absurd (show false = true from hs) Bool.false_ne_true
  | bl i =>
    cases rx
    cases y with
    | non => cases ry; exact PySem.EqNone.ne_bool_none (fin_bl I q (by simp))
    | bl j => cases ry; exact ne_bool (fin_bl I q (congrArg not dec_bl))
    | str j => obtain ⟨t', rfl⟩ := ry; exact PySem.EqMixed.ne_bool_str (fin_bl I q (by simp))
    | _ => exact absurd (show false = true from hs) Bool.false_ne_true
  | int i =>
    obtain ⟨t, rfl⟩ := rx
    cases y with
    | non => cases ry; exact PySem.EqNone.ne_int_none (fin_bl I q (by simp))
    | int j => obtain ⟨t', rfl⟩ := ry; exact ne_int (fin_bl I q (congrArg not dec_int))
    | str j => obtain ⟨t', rfl⟩ := ry; exact PySem.EqMixed.ne_int_str (fin_bl I q (by simp))
    | _ => exact absurd (show false = true from hs) Bool.false_ne_true
  | str i =>
    obtain ⟨t, rfl⟩ := rx
    cases y with
    | non => cases ry; exact PySem.EqNone.ne_str_none (fin_bl I q (by simp))
    | bl j => cases ry; exact PySem.EqMixed.ne_str_bool (fin_bl I q (by simp))
    | int j => obtain ⟨t', rfl⟩ := ry; exact PySem.EqMixed.ne_str_int (fin_bl I q (by simp))
    | str j => obtain ⟨t', rfl⟩ := ry; exact ne_str (fin_bl I q (congrArg not dec_str))
    | _ => exact absurd (show false = true from hs) Bool.false_ne_true
  | byt i =>
    obtain ⟨t, rfl⟩ := rx
    cases y with
    | byt j => obtain ⟨t', rfl⟩ := ry; exact PySem.W.ne_bytes (fin_bl I q (congrArg not dec_byt))
    | _ => exact absurd (show false = true from hs) Bool.false_ne_true
  | _ => cases y <;> exact absurd (show false = true from hs) Bool.false_ne_true
theorem op_lt : OpR X (compareOp .Lt) (rI0 fun i j => .bl (decide (i < j))) := opB0 fun _ _ _ _ _ _ _ q => lt_int q
theorem op_le : OpR X (compareOp .LtE) (rI0 fun i j => .bl (decide (i ≤ j))) := opB0 fun _ _ _ _ _ _ _ q => le_int q
theorem op_gt : OpR X (compareOp .Gt) (rI0 fun i j => .bl (decide (j < i))) := opB0 fun _ _ _ _ _ _ _ q => gt_int q
theorem op_ge : OpR X (compareOp .GtE) (rI0 fun i j => .bl (decide (j ≤ i))) := opB0 fun _ _ _ _ _ _ _ q => ge_int q
theorem op_isN : OpR X (compareOp .Is) (fun x y H Q => y = .non ∧ Q (.bl (decide (x = .non))) H) := by
  intro pins s σ H x y v u Q I rx ry h
  obtain ⟨rfl, q⟩ := h
  cases ry
  refine is_none_gen (fin_bl I q ?_)
  cases x <;> first
    | (cases rx; rfl)
    | (obtain ⟨t, rfl⟩ := rx; rfl)
theorem op_notN : OpR X (compareOp .IsNot) (fun x y H Q => y = .non ∧ Q (.bl (!decide (x = .non))) H) := by
  intro pins s σ H x y v u Q I rx ry h
  obtain ⟨rfl, q⟩ := h
  cases ry
  refine isnot_none_gen (fin_bl I q ?_)
  cases x <;> first
    | (cases rx; rfl)
    | (obtain ⟨t, rfl⟩ := rx; rfl)
theorem nomark (b : Expr) {op : CmpOp} (h : op ≠ .In := by decide) (h2 : op ≠ .NotIn := by decide) : behindInMarks op b = false := by
  have e1 : (op == CmpOp.In) = false := by cases op <;> first | rfl | exact absurd rfl h
  have e2 : (op == CmpOp.NotIn) = false := by cases op <;> first | rfl | exact absurd rfl h2
  cases b <;> simp [behindInMarks, e1, e2]
theorem pe_cmpR {op : CmpOp} {r : R2} (ho : OpR X (compareOp op) r) (ha : PE X a ta) (hb : PE X b tb) (hm : behindInMarks op b = false) : PE X (.Compare a [op] [b] pos) (tOp r ta tb) := by
  intro pins s σ H Q I h
  exact wpAny_Compare1 (binT ha hb I h fun v u s2 x y H2 I2 rx ry q => ho pins s2 σ H2 x y v u Q I2 rx ry q) hm
noncomputable def tTest (t : TE) : TT := fun σ H Q => t σ H fun x H' => ∃ k, x = .bl k ∧ Q k H'
theorem pt_cmpR {op : CmpOp} {r : R2} (ho : OpR X (compareOp op) r) (ha : PE X a ta) (hb : PE X b tb) (hm : behindInMarks op b = false) : PT X (.Compare a [op] [b] pos) (tTest (tOp r ta tb)) := by
  intro pins s σ H Q I h
  refine wpAny_isTrue_Compare1 (thn (ha pins s σ H _ I h) fun v s1 ⟨x, H1, I1, r1, q1⟩ => thn (hb pins s1 σ H1 _ I1 q1) fun u s2 ⟨y, H2, I2, r2, q2⟩ =>
    thn (ho pins s2 σ H2 x y v u _ I2 r1 r2 q2) fun c s3 ⟨z, H3, I3, r3, k, e, q3⟩ => ?_) hm
  subst e
  cases r3
  exact wpAny_truthy_bool ⟨H3, I3, q3⟩
noncomputable def tChain (r r' : R2) (ta tb tc : TE) : TE := fun σ H Q => ta σ H fun x H1 => tb σ H1 fun y H2 => r x y H2 fun z H3 => ∃ k, z = .bl k ∧
  (if k = true then tc σ H3 fun w' H4 => r' y w' H4 Q else Q (.bl false) H3)
theorem pt_chain {op op' : CmpOp} {r r' : R2} (ho : OpR X (compareOp op) r) (ho' : OpR X (compareOp op') r') (ha : PE X a ta) (hb : PE X b tb) (hc : PE X c tc)
    (hm : lastMarks [op, op'] [b, c] = false := by with_unfolding_all rfl) : PT X (.Compare a [op, op'] [b, c] pos) (tTest (tChain r r' ta tb tc)) := by
  intro pins s σ H Q I h
  refine isTrue_chain (thn (ha pins s σ H _ I h) fun v s1 ⟨x, H1, I1, r1, q1⟩ => test_link (thn (hb pins s1 σ H1 _ I1 q1) fun u s2 ⟨y, H2, I2, r2, q2⟩ =>
    thn (ho pins s2 σ H2 x y v u _ I2 r1 r2 q2) fun d s3 ⟨z, H3, I3, r3, k, e, q3⟩ => ?_)) hm
  subst e
  cases r3
  refine wpAny_truthy_bool ?_
  cases k with
  | false =>
    obtain ⟨k', e', q'⟩ := q3
    cases e'
    exact ite_ff ⟨H3, I3, q'⟩
  | true =>
    refine ite_tt (test_last (thn (hc pins s3 σ H3 _ I3 q3) fun w' s4 hh => ?_))
    obtain ⟨z', H4, I4, r4, q4⟩ := hh
    refine thn (ho' pins s4 σ H4 y z' u w' _ I4 r2 r4 q4) fun d' s5 hh => ?_
    obtain ⟨z2, H5, I5, r5, k2, e2, q5⟩ := hh
    subst e2
    cases r5
    exact wpAny_truthy_bool ⟨H5, I5, q5⟩
noncomputable def TruV (K : PySem.W.Frag) (x : V) (H : Hp) (k : Bool) : Prop :=
  match x with
  | .non => k = false
  | .bl b => k = b
  | .int i => k = (i != 0)
  | .str y => y.length ≤ sizeLine ∧ k = ((y.length : Int) != 0)
  | .byt y => y.size ≤ sizeLine ∧ k = ((y.size : Int) != 0)
  | .ref p => (∃ xs, SqL K H p xs ∧ k = !xs.isEmpty) ∨ (∃ xs, SqT K H p xs ∧ k = !xs.isEmpty) ∨ ∃ kvs, H p = some (.dK kvs) ∧ k = !kvs.isEmpty
  | _ => False
theorem isEmpty_kv {κ : Type} {kvs : List (κ × V)} {vs : List (κ × Value)} (r : KV kvs vs) : (!vs.isEmpty) = !kvs.isEmpty := by
  cases r <;> rfl
theorem isEmpty_of {xs : List V} {its : List Value} (r : Vals xs its) : (!its.toArray.isEmpty) = !xs.isEmpty := by
  cases r <;> simp
theorem line63 : (sizeLine : Nat) < 2 ^ 63 := by rw [sizeLine_eq]; decide
theorem tru_ok : TruR X (fun x H Q => ∃ k, TruV X.K x H k ∧ Q k H) := by
  intro pins s σ H x v Q I rx h
  obtain ⟨k, e, q⟩ := h
  have hl := line63
  have hs : sizeLine = 16777216 := sizeLine_eq
  cases x with
  | non =>
    cases rx
    have e' : k = false := e
    subst e'
    exact truthy_none ⟨H, I, q⟩
  | bl b =>
    cases rx
    have e' : k = b := e
    subst e'
    exact wpAny_truthy_bool ⟨H, I, q⟩
  | int i =>
    obtain ⟨t, rfl⟩ := rx
    have e' : k = (i != 0) := e
    subst e'
    exact PySem.P.truthy_int ⟨H, I, q⟩
  | str y =>
    obtain ⟨t, rfl⟩ := rx
    obtain ⟨hy, e'⟩ : y.length ≤ sizeLine ∧ k = ((y.length : Int) != 0) := e
    subst e'
    exact PySem.P.truthy_str (by (first | lia | omega)) ⟨H, I.tok _, q⟩
  | byt y =>
    obtain ⟨t, rfl⟩ := rx
    obtain ⟨hy, e'⟩ : y.size ≤ sizeLine ∧ k = ((y.size : Int) != 0) := e
    subst e'
    exact PySem.W.truthy_bytes (by (first | lia | omega)) ⟨H, I.tok _, q⟩
  | ref p =>
    cases rx
    have e' : (∃ xs, SqL X.K H p xs ∧ k = !xs.isEmpty) ∨ (∃ xs, SqT X.K H p xs ∧ k = !xs.isEmpty) ∨ ∃ kvs, H p = some (.dK kvs) ∧ k = !kvs.isEmpty := e
    rcases e' with ⟨xs, hx, e'⟩ | ⟨xs, hx, e'⟩ | ⟨kvs, hx, e'⟩
    · subst e'
      obtain ⟨its, r, pl, hz⟩ := I.list hx
      have hlen := r.length
      exact wpAny_truthy_list pl.isList (by simp only [List.size_toArray]; (first | lia | omega)) ⟨H, I.tok _, by rw [isEmpty_of r]; exact q⟩
    · subst e'
      obtain ⟨its, r, pl, hz⟩ := I.tuple hx
      have hlen := r.length
      exact truthy_tuple pl (by simp only [List.size_toArray]; (first | lia | omega)) ⟨H, I.tok _, by rw [isEmpty_of r]; exact q⟩
    · subst e'
      obtain ⟨hz, hS, vs, r, m⟩ : kvs.length ≤ sizeLine ∧ (p == sysModules) = false ∧ ∃ vs, KV kvs vs ∧ s.heap.DictOf (mixKind X.prog X.w) p vs := I.hok p _ hx
      have hlen : kvs.length = vs.length := Paired.length r
      exact wpAny_truthy_dict hS m (by (first | lia | omega)) ⟨H, I.tok _, by rw [isEmpty_kv r]; exact q⟩
  | _ => exact (show False from e).elim
theorem pt_truth (ha : PE X a ta) (he : ∀ whole, isTrue a X.env whole = (do let v ← whole; standAt a.pos; holding [v] (truthy v))) :
    PT X a (fun σ H Q => ta σ H fun x H' => ∃ k, TruV X.K x H' k ∧ Q k H') := by
  intro pins s σ H Q I h
  exact isTrue_plain (thn (ha pins s σ H _ I h) fun v s1 ⟨x, H1, I1, r1, q1⟩ => tru_ok pins s1 σ H1 x v Q I1 r1 q1) (he _)
theorem op_add_str : OpR X (binaryOp .Add) (fun x y H Q => ∃ i j, x = .str i ∧ y = .str j ∧ i.length + j.length ≤ sizeLine ∧ Q (.str (i ++ j)) H) := by
  intro pins s σ H x y v u Q I rx ry h
  obtain ⟨i, j, rfl, rfl, hz, q⟩ := h
  obtain ⟨t, rfl⟩ := rx
  obtain ⟨t', rfl⟩ := ry
  exact add_str (fun t' tk => ⟨.str (i ++ j), H, I.tok _, ⟨_, rfl⟩, q⟩) hz
theorem vals1 {x : V} {us : List Value} (r : Vals [x] us) : ∃ u, us = [u] ∧ RelV x u := by
  cases r with
  | cons r1 r2 => cases r2; exact ⟨_, rfl, r1⟩
theorem vals2 {x y : V} {us : List Value} (r : Vals [x, y] us) : ∃ u w', us = [u, w'] ∧ RelV x u ∧ RelV y w' := by
  cases r with
  | cons r1 r2 =>
    cases r2 with
    | cons r3 r4 => cases r4; exact ⟨_, _, rfl, r1, r3⟩
theorem call_abs : CallR X (.builtin "abs") (fun xs H Q => ∃ i, xs = [.int i] ∧ Q (.int (if i < 0 then -i else i)) H) := by
  intro pins s σ H xs us Q I r h
  obtain ⟨i, rfl, q⟩ := h
  obtain ⟨u, rfl, t, rfl⟩ := vals1 r
  exact call_abs_int fun u tk => ⟨.int (if i < 0 then -i else i), H, I.tok _, ⟨_, rfl⟩, q⟩
theorem call_min2 (hc : X.calm = true) : CallR X (.builtin "min") (fun xs H Q => ∃ i j, xs = [.int i, .int j] ∧ Q (.int (if j < i then j else i)) H) := by
  intro pins s σ H xs us Q I r h
  obtain ⟨i, j, rfl, q⟩ := h
  obtain ⟨u, w', rfl, ⟨t, rfl⟩, ⟨t', rfl⟩⟩ := vals2 r
  refine min_two_ints (I.ok.hd hc) fun h' tk k => ⟨_, H, I.kept k, ?_, q⟩
  by_cases hj : j < i
  · rw [if_pos hj, if_pos hj]; exact ⟨_, rfl⟩
  · rw [if_neg hj, if_neg hj]; exact ⟨_, rfl⟩
end
end L2
namespace L2
open PySem PySem.Spec PyProof.Rows
structure ObjM (h : Heap) (x dx C : Addr) (mA : Str → Option Value) : Prop where
  obj : h.get? x = some (PySem.W.instObj C dx)
  ns : h.Ns1 dx mA
  ne : dx ≠ x
theorem lookIn_ns {h : Heap} {dx : Addr} {mA : Str → Option Value} (n : h.Ns1 dx mA) : ∃ od, h.get? dx = some od ∧ ∀ name, PySem.W.lookIn name od = some (mA name) := by
  obtain ⟨o, es, ep, ho, hd, hk, _, hm⟩ := n
  refine ⟨o, ho, fun name => ?_⟩
  have e := hm name
  unfold nsFind findBy at e
  rw [← Array.find?_toList] at e
  unfold PySem.W.lookIn
  rw [hd]
  dsimp only
  split
  · rename_i y q
    rw [q] at e
    exact congrArg some e
  · rename_i q
    rw [q] at e
    have a : es.toList.any (·.refKey) = false := by
      rw [List.any_eq_false]
      intro y hy
      obtain ⟨z, t, hkey⟩ := hk y (Array.mem_toList_iff.mp hy)
      simp [DictEntry.refKey, hkey]
    have a' : ¬ es.toList.any (·.refKey) = true := by rw [a]; exact Bool.false_ne_true
    rw [if_neg a']
    exact congrArg some e
theorem ObjM.look {h : Heap} {x dx C : Addr} {mA : Str → Option Value} (I : ObjM h x dx C mA) : ∃ od, PySem.W.InstAt h x (PySem.W.instObj C dx) C (some od) ∧ ∀ name, PySem.W.lookIn name od = some (mA name) :=
  let ⟨od, ho, hl⟩ := lookIn_ns I.ns
  ⟨od, ⟨I.obj, rfl, rfl, ho⟩, hl⟩
section
variable {prog : Program} {w : World} {A : Around} {E : Value → Shared → Prop} {s : Shared} {K : PySem.W.Frag} {x dx C f : Addr} {mA : Str → Option Value} {name : Str} {v : Value}
end
theorem RelO.some_of {v : V} {o : Option Value} (r : RelO (some v) o) : ∃ u, o = some u ∧ RelV v u := by
  cases o with
  | none => exact (show False from r).elim
  | some u => exact ⟨u, rfl, r⟩
section
variable {P : Program} {w : World} {H H' : Hp} {h h' : Heap} {a C dx : Addr} {fs fs' : List (Str × V)}
end
structure Cls (K : PySem.W.Frag) (C : Addr) : Prop where
  pg : PySem.W.plainGet K C Str.empty = true
  hd : PySem.W.hasDictIn K C = true
  po : PySem.W.plainOver K C = true
  sa : PySem.W.findIn K (.ref C) "__setattr__" = some (some (.builtin "object.__setattr__"))
section
variable {X : Cx} {pins : List (Addr × Obj)} {σ : St} {H : Hp} {s : Shared} {a C dx : Addr} {fs : List (Str × V)} {f : Str} {v : V} {A : Around} {E : Value → Shared → Prop}
end
section
variable {X : Cx} {o e value : Expr} {f : Str} {pos pos' tpos : Pos} {ta tv : TE}
noncomputable def rAdd : V → V → Hp → VK → Prop := fun x y H Q => ∃ i j, x = .int i ∧ y = .int j ∧ Q (.int (i + j)) H
noncomputable def rSub : V → V → Hp → VK → Prop := fun x y H Q => ∃ i j, x = .int i ∧ y = .int j ∧ Q (.int (i - j)) H
end
section
variable {X : Cx} {pins : List (Addr × Obj)} {σ : St} {H : Hp} {s : Shared} {A : Around} {E : Value → Shared → Prop} {Q : Value → Shared → Prop} {c : Value} {b : Bool}
inductive TyOf (K : PySem.W.Frag) (H : Hp) : V → Value → Prop where
  | non : TyOf K H .non (.type "NoneType")
  | bl (x : Bool) : TyOf K H (.bl x) (.type "bool")
  | int (i : Int) : TyOf K H (.int i) (.type "int")
  | str (x : Str) : TyOf K H (.str x) (.type "str")
  | flt (x : UInt64) : TyOf K H (.flt x) (.type "float")
  | lst {a : Addr} {xs : List V} (e : H a = some (.lst xs)) : TyOf K H (.ref a) (.type "list")
  | frz {a : Addr} {o : Obj} {xs : List V} (e : H a = some (.frz o (.lst xs))) : TyOf K H (.ref a) (.type "list")
  | tup {a : Addr} {xs : List V} (e : H a = some (.tup xs)) : TyOf K H (.ref a) (.type "tuple")
  | dK {a : Addr} {kvs : List (Key × V)} (e : H a = some (.dK kvs)) : TyOf K H (.ref a) (.type "dict")
  | dT {a : Addr} {kvs : List (List Key × V)} (e : H a = some (.dT kvs)) : TyOf K H (.ref a) (.type "dict")
  | ins {a C dx : Addr} {fs : List (Str × V)} (e : H a = some (.ins C dx fs)) (cl : Cls K C) (ha : PySem.W.findIn K (.ref C) "__class__" = some (some (.builtin "object.__class__")))
      (hn : PySem.W.specialIn K (.builtin "object.__class__") "__get__" = some (some (.builtin "getset_descriptor.__get__"))) (htk : PySem.W.takesIn K (.builtin "object.__class__") = some true)
      (hm : PySem.W.mroIn K C (.type "object") = some true) : TyOf K H (.ref a) (.ref C)
end
end L2
namespace L2
open PySem PySem.Spec PyProof.Rows
structure Room (k : Nat) (A : Around) : Prop where
  hd : A.handled = none
  dp : A.depth + 3 * k + 5 < recursionLimit
  un : A.units + 16 * k + 200 < cLine
  gd : A.guards = some [] := by rfl
theorem Room.mono {j k : Nat} {A : Around} (r : Room k A) (h : j ≤ k) : Room j A := ⟨r.hd, by have := r.dp; (first | lia | omega), by have := r.un; (first | lia | omega), r.gd⟩
theorem Room.deeper {k : Nat} {A : Around} (r : Room (k + 1) A) (env : Env) : Room k (A.deeper env) :=
  ⟨r.hd, by have := r.dp; show A.depth + 1 + 3 * k + 5 < _; (first | lia | omega), by have := r.un; show A.units + 3 + 16 * k + 200 < _; (first | lia | omega), r.gd⟩
theorem Room.in1 {k : Nat} {A : Around} (r : Room (k + 1) A) : Room k A.in1 :=
  ⟨r.hd, by have := r.dp; show A.depth + 3 * k + 5 < _; (first | lia | omega), by have := r.un; show A.units + 1 + 16 * k + 200 < _; (first | lia | omega), r.gd⟩
theorem Room.depth {k : Nat} {A : Around} (r : Room k A) : A.depth < recursionLimit := by have := r.dp; (first | lia | omega)
theorem Room.units {k : Nat} {A : Around} (r : Room k A) : A.units + 64 < cLine := by have := r.un; (first | lia | omega)
noncomputable def tNil : TA := fun _ H Q => Q [] H
noncomputable def tCons (ta : TE) (tr : TA) : TA := fun σ H Q => ta σ H fun x H1 => tr σ H1 fun xs H2 => Q (x :: xs) H2
section
variable {X : Cx} {e : Expr} {es : List Expr} {te : TE} {t : TA} {pos : Pos}
theorem pa_nil : PA X [] tNil := fun _ _ _ _ H Q I h => Calls.spliced_nil ⟨[], H, I, .nil, h⟩
theorem pa_cons (ha : PE X e te) (hr : PA X es t) (hs : starEach (e :: es) X.env = (false, eval e X.env) :: starEach es X.env := by rfl) : PA X (e :: es) (tCons te t) := by
  intro pos pins s σ H Q I h
  rw [hs]
  show wpAny _ _ (spliced ((false, eval e X.env) :: backTo pos (starEach es X.env))) _ _ s
  refine Calls.spliced_cons (thn (ha pins s σ H _ I h) fun u s1 hh => ?_)
  obtain ⟨x, H1, I1, r1, q1⟩ := hh
  exact thn (hr pos pins s1 σ H1 _ I1 q1) fun us s2 ⟨xs, H2, I2, r2, q2⟩ => ⟨x :: xs, H2, I2, .cons r1 r2, q2⟩
end
noncomputable abbrev Sp := List V → Hp → VK → XK → Prop
noncomputable abbrev CXT := List Env → Hp → Shared → XK → Value → Shared → Prop
structure Env0 (P : Program) (w : World) (K : PySem.W.Frag) (mg : Str → Option Value) (base : Heap) (A : Around) (outer : List Env) (s : Shared) (H : Hp) : Prop where
  frames : A.frames = some outer
  mod : Mod K mg base
  bs : ∀ b o, base.get? b = some o → s.heap.get? b = some o ∧ H b = none
  bsz : base.objs.size ≤ s.heap.objs.size
  funs : s.heap.FunFrames base outer
  frf : ∀ b ∈ frs outer, H b = none
  hok : HOk P w H s.heap
  bare : AllBare s.gens
noncomputable def CE (outer : List Env) (P : Program) (w : World) (H : Hp) (s : Shared) (Q : VK) (u : Value) (s' : Shared) : Prop :=
  ∃ v H', s'.os = s.os ∧ AllBare s'.gens ∧ Un (frs outer) [] H H' s.heap s'.heap ∧ HOk P w H' s'.heap ∧ RelV v u ∧ Q v H'
noncomputable def CR (CX : CXT) (outer : List Env) (P : Program) (w : World) (H : Hp) (s : Shared) (Q : VK) (E : XK) (r : Result) (s' : Shared) : Prop :=
  match r with
  | .ok (.ret u) => CE outer P w H s Q u s'
  | .ok _ => False
  | .error e => CX outer H s E e s'
structure FnOk (P : Program) (w : World) (K : PySem.W.Frag) (mg : Str → Option Value) (base : Heap) (CX : CXT) (k : Nat) (f : Addr) (fd : FuncData) (ps : List Str) (sp : Sp) : Prop where
  len : ∀ vs H Q E, sp vs H Q E → vs.length = ps.length
  run : ∀ (A : Around) (outer : List Env) (s : Shared) (H : Hp) (args : Args) (us : List Value) (vs : List V) (Q : VK) (E : XK), Room k A → Env0 P w K mg base A outer s H → BindsTo s fd args (ps.zip us) → Vals vs us → sp vs H Q E →
    codeAny (model P w) A (.call (.ref f) args) (CR CX outer P w H s Q E) s
theorem FnOk.mono {P : Program} {w : World} {K : PySem.W.Frag} {mg : Str → Option Value} {base : Heap} {CX : CXT} {j k : Nat} {f : Addr} {fd : FuncData} {ps : List Str} {sp : Sp} (F : FnOk P w K mg base CX j f fd ps sp) (h : j ≤ k) :
    FnOk P w K mg base CX k f fd ps sp := ⟨F.len, fun A outer s H args us vs Q E hr => F.run A outer s H args us vs Q E (hr.mono h)⟩
theorem Env0.in1 {P : Program} {w : World} {K : PySem.W.Frag} {mg : Str → Option Value} {base : Heap} {A : Around} {outer : List Env} {s : Shared} {H : Hp} (e : Env0 P w K mg base A outer s H) :
    Env0 P w K mg base A.in1 outer s H := ⟨e.frames, e.mod, e.bs, e.bsz, e.funs, e.frf, e.hok, e.bare⟩
section
variable {X : Cx} {pins : List (Addr × Obj)} {σ : St} {H : Hp} {s s' : Shared}
theorem Inv.env0 (I : Inv X pins σ H s) : Env0 X.prog X.w X.K X.mg X.base X.A X.stack s H :=
  ⟨I.ok.frames, I.ok.mod, I.bs, Nat.le_trans I.ok.bsz I.sz, I.stack, I.stkFree, I.hok, I.bare⟩
theorem Inv.after {Q : VK} {u : Value} (I : Inv X pins σ H s) (h : CE X.stack X.prog X.w H s Q u s') : EP X pins σ Q u s' := by
  obtain ⟨v, H', os, bare, un, hok, r, q⟩ := h
  obtain ⟨hh, g, d, t, os'⟩ := s'
  obtain rfl : os' = s.os := os
  exact ⟨v, H', I.call (h' := hh) (g' := g) (d' := d) (t' := t) (ch := []) un hok bare (fun b z => absurd z (by simp)), r, q⟩
end
noncomputable def tCall (sp : Sp) (dvs : List V) (E : XK) (t : TA) : TE := fun σ H Q => t σ H fun vs H1 => sp (vs ++ dvs) H1 Q E
noncomputable def Binds (K : PySem.W.Frag) (fd : FuncData) (ps : List Str) (ds : List Value) : Prop :=
  ∀ (s : Shared) (us : List Value), K.In s.heap → (us ++ ds).length = ps.length → BindsTo s fd ⟨us, []⟩ (ps.zip (us ++ ds))
theorem Binds.all {K : PySem.W.Frag} {fd : FuncData} {ps : List Str} (h : ∀ us : List Value, us.length = ps.length → bindArgs fd ⟨us, []⟩ = pure (ps.zip us)) : Binds K fd ps [] := fun s us _ hl => by
  rw [List.append_nil] at hl ⊢
  exact .of_eq (h us hl)
noncomputable def Passes (CX : CXT) (X : Cx) (E : XK) : Prop := ∀ (pins : List (Addr × Obj)) (σ : St) (H : Hp) (s : Shared) (e : Value) (s' : Shared), Inv X pins σ H s → CX X.stack H s E e s' → X.xe e s'
section
variable {X : Cx} {CX : CXT} {k : Nat} {f C : Addr} {fd : FuncData} {ps : List Str} {sp : Sp} {dvs : List V} {ds : List Value} {E : XK} {x m : Str} {p pos apos : Pos} {e o : Expr} {es : List Expr} {ta : TE} {t : TA}
theorem run_fn {pins : List (Addr × Obj)} {σ : St} {H : Hp} {s : Shared} {Q : VK} {us : List Value} {vs : List V} (F : FnOk X.prog X.w X.K X.mg X.base CX k f fd ps sp) (hr : Room k X.A) (hb : Binds X.K fd ps ds) (hd : Vals dvs ds) (hx : Passes CX X E)
    (I : Inv X pins σ H s) (r : Vals vs us) (h : sp (vs ++ dvs) H Q E) : wpAny (model X.prog X.w) X.A (call (.ref f) us) (EP X pins σ Q) X.xe s := by
  have r2 : Vals (vs ++ dvs) (us ++ ds) := r.append hd
  have hl : (us ++ ds).length = ps.length := by rw [← r2.length]; exact F.len _ _ _ _ h
  refine wpAny_call (codeAny_mono (F.run X.A X.stack s H ⟨us, []⟩ (us ++ ds) (vs ++ dvs) Q E hr I.env0 (hb s us I.kIn hl) r2 h) fun r s' hq => ?_)
  cases r with
  | error e => exact hx pins σ H s e s' I hq
  | ok fl =>
    cases fl with
    | ret u => exact I.after hq
    | next => exact False.elim hq
    | brk => exact False.elim hq
    | cont => exact False.elim hq
theorem pe_call (F : FnOk X.prog X.w X.K X.mg X.base CX k f fd ps sp) (hr : Room k X.A) (hg : Gl X x) (hm : X.mg x = some (.ref f)) (hk : PySem.W.keepIn X.K (.ref f) = true) (hb : Binds X.K fd ps ds) (hd : Vals dvs ds) (hx : Passes CX X E)
    (ha : PA X (e :: es) t) (hdb : (x == ("__debug__" : Str)) = false := by decide) (he : starEach (e :: es) X.env = (false, eval e X.env) :: starEach es X.env := by rfl) (hpl : (backTo pos (starEach es X.env)).any (·.1) = false := by rfl) :
    PE X (.Call (.Name x p) (e :: es) [] pos) (tCall sp dvs E t) := by
  intro pins s σ H Q I h
  refine wpAny_Call_Name_kw (ld_glob I hg hm ?_ hdb)
  refine PySem.W.callWith_K (h₀ := X.base) I.ok.mod.kin hk (thn (ha pos pins s σ H _ I h) fun us s1 ⟨vs, H1, I1, r, q⟩ => ⟨I1.kIn, ?_⟩) he hpl
  exact run_fn F hr hb hd hx I1 r q
end
section
variable {X : Cx} {CX : CXT} {k : Nat} {f C : Addr} {fd : FuncData} {ps ks : List Str} {sp : Sp} {E : XK} {x m : Str} {p pos apos kpos : Pos} {e o : Expr} {es : List Expr} {kws : List Keyword} {te ta : TE} {t tk : TA} {nm : Option Str}
variable {g : List Value → List Value → List Value} {gV : List V → List V → List V}
end
structure FnScope (N P : List Str) (sc : Scope) : Prop where
  kind : sc.kind = .function
  co : sc.isCoroutine = false
  gen : sc.isGenerator = false
  nd : N.Nodup
  pre : N.take P.length = P
  par : ∀ x ∈ P, sc.names.lookup x = some .local ∨ sc.names.lookup x = some .cell
  nofree : ∀ y ∈ sc.names, y.2 ≠ .free
theorem bindL_out {kindOf : Str → Option NameKind} {x : Str} : ∀ {binds : List (Str × Value)} {m : Str → Option Value}, (∀ v, (x, v) ∉ binds) → bindL kindOf binds m x = m x
  | [], _, _ => rfl
  | (n, v) :: r, m, h => by
    unfold bindL
    rw [bindL_out fun w hw => h w (List.mem_cons_of_mem _ hw)]
    split
    · have : x ≠ n := by rintro rfl; exact h v List.mem_cons_self
      simp [this]
    · rfl
theorem bindC_out {kindOf : Str → Option NameKind} {x : Str} : ∀ {binds : List (Str × Value)} {m : Str → Option Value}, (∀ v, (x, v) ∉ binds) → bindC kindOf binds m x = m x
  | [], _, _ => rfl
  | (n, v) :: r, m, h => by
    unfold bindC
    rw [bindC_out fun w hw => h w (List.mem_cons_of_mem _ hw)]
    split
    · rfl
    · have : x ≠ n := by rintro rfl; exact h v List.mem_cons_self
      simp [this]
theorem bindL_get {kindOf : Str → Option NameKind} {x : Str} {v : Value} : ∀ {P : List Str} {vs : List Value} {i : Nat} {m : Str → Option Value}, P.Nodup → P[i]? = some x → vs[i]? = some v → kindOf x = some .local →
    bindL kindOf (P.zip vs) m x = some v
  | [], _, _, _, _, h, _, _ => by simp at h
  | _ :: _, [], _, _, _, _, h, _ => by simp at h
  | p :: P, w :: vs, 0, m, nd, h1, h2, hk => by
    simp at h1 h2; subst h1; subst h2
    show bindL kindOf ((p, w) :: P.zip vs) m p = _
    unfold bindL
    rw [bindL_out fun v hv => (List.nodup_cons.mp nd).1 (List.of_mem_zip hv).1, if_pos hk]
    simp
  | p :: P, w :: vs, i + 1, m, nd, h1, h2, hk => by
    show bindL kindOf ((p, w) :: P.zip vs) m x = _
    unfold bindL
    exact bindL_get (i := i) (List.nodup_cons.mp nd).2 (by simpa using h1) (by simpa using h2) hk
theorem bindC_get {kindOf : Str → Option NameKind} {x : Str} {v : Value} : ∀ {P : List Str} {vs : List Value} {i : Nat} {m : Str → Option Value}, P.Nodup → P[i]? = some x → vs[i]? = some v → kindOf x ≠ some .local →
    bindC kindOf (P.zip vs) m x = some v
  | [], _, _, _, _, h, _, _ => by simp at h
  | _ :: _, [], _, _, _, _, h, _ => by simp at h
  | p :: P, w :: vs, 0, m, nd, h1, h2, hk => by
    simp at h1 h2; subst h1; subst h2
    show bindC kindOf ((p, w) :: P.zip vs) m p = _
    unfold bindC
    rw [bindC_out fun v hv => (List.nodup_cons.mp nd).1 (List.of_mem_zip hv).1, if_neg hk]
    simp
  | p :: P, w :: vs, i + 1, m, nd, h1, h2, hk => by
    show bindC kindOf ((p, w) :: P.zip vs) m x = _
    unfold bindC
    exact bindC_get (i := i) (List.nodup_cons.mp nd).2 (by simpa using h1) (by simpa using h2) hk
noncomputable def start (N : List Str) (vs : List V) : St := vs.map some ++ List.replicate (N.length - vs.length) none
noncomputable def cxOf (CX : CXT) (P : Program) (w : World) (K : PySem.W.Frag) (mg : Str → Option Value) (base : Heap) (N : List Str) (qual : Str) (scope : Scope) (f : Addr) (cd : Value) (A : Around) (outer : List Env) (s : Shared) (H : Hp) (E : XK) : Cx where
  prog := P
  w := w
  K := K
  mg := mg
  base := base
  A := A.deeper (envOfC qual scope s.heap.objs.size f cd)
  N := N
  s₀ := s
  H₀ := H
  env := envOfC qual scope s.heap.objs.size f cd
  outer := outer
  stack := envOfC qual scope s.heap.objs.size f cd :: outer
  ex := []
  calm := true
  fn := fun _ => true
  pn := []
  xe := fun e s' => wpAny (model P w) (A.deeper (envOfC qual scope s.heap.objs.size f cd)) (leaving (envOfC qual scope s.heap.objs.size f cd) e) (fun _ s'' => CX outer H s E e s'') (fun e' s'' => CX outer H s E e' s'') s'
theorem cell_has {sc : Scope} {n : Nat} {x : Str} (h : sc.names.lookup x = some .cell) : ∃ c, (cellsFrom n sc.names []).lookup x = some c := by
  have q := PySem.W.cellsFrom_some sc.names n [] (.inl h)
  exact Option.isSome_iff_exists.mp q
theorem inv_start {CX : CXT} {P : Program} {w : World} {K : PySem.W.Frag} {mg : Str → Option Value} {base : Heap} {N ps : List Str} {qual : Str} {scope : Scope} {f : Addr} {cd : Value} {A : Around} {outer : List Env} {s s1 : Shared} {H : Hp} {E : XK} {us : List Value} {vs : List V}
    (S : FnScope N ps scope) (hd : A.handled = none) (e0 : Env0 P w K mg base A outer s H) (hl : vs.length = ps.length) (r : Vals vs us)
    (x : InCallC s s.heap.objs.size (bindL (envOfC qual scope s.heap.objs.size f cd).kindOf (ps.zip us) fun _ => none) (cellsFrom (s.heap.objs.size + 1) scope.names []) (bindC (envOfC qual scope s.heap.objs.size f cd).kindOf (ps.zip us) fun _ => none) s1) :
    Inv (cxOf CX P w K mg base N qual scope f cd A outer s H E) [] (start N vs) H s1 := by
  have hpl : ps.length ≤ N.length := by have := congrArg List.length S.pre; rw [List.length_take] at this; (first | lia | omega)
  obtain ⟨h1, tk, rfl, hk⟩ := x.done
  have noA : ∀ b : Addr, b ∉ (cxOf CX P w K mg base N qual scope f cd A outer s H E).ex := fun b z => absurd (show b ∈ ([] : List Addr) from z) (by simp)
  refine ⟨⟨e0.mod, S.kind, rfl, rfl, Nat.le_refl _, fun y z c h1 h2 => ?_, fun y hy => ?_, fun y c _ h => ?_, fun _ => hd, Around.frames_deeper e0.frames, .inr ⟨rfl, rfl⟩, fun b z => absurd z (noA b), e0.bs, e0.bsz, fun b _ _ => noA b, fun b z => absurd z (noA b), e0.funs, e0.frf⟩,
    rfl, e0.bare, Un.kept hk, ⟨_, x.toInCall.ns, fun i y v h1 h2 h3 => ?_⟩, fun y c h => ⟨_, x.cell y c h⟩, e0.hok.fresh (Nat.le_refl _), fun y c h => ?_, fun p hp => absurd (show p ∈ ([] : List (Addr × Obj)) from hp) (by simp), e0.hok.kept hk, ?_⟩
  · exact name_of_addr x.apart (PySem.mem_of_lookup h1) (PySem.mem_of_lookup h2)
  · have hy : scope.names.lookup y = some .cell ∨ scope.names.lookup y = some .free := hy
    rcases hy with hy | hy
    · exact cell_has hy
    · exact absurd rfl (S.nofree _ (PySem.mem_of_lookup hy))
  · exact Nat.le_of_lt (x.above y c (PySem.mem_of_lookup h))
  · have hi : i < vs.length := by
      unfold start at h2
      by_cases hi : i < vs.length
      · exact hi
      · rw [List.getElem?_append_right (by simpa using hi)] at h2
        rw [List.getElem?_replicate] at h2
        split at h2 <;> cases h2
    have ha : vs[i]? = some v := by
      unfold start at h2
      rw [List.getElem?_append_left (by simpa using hi), List.getElem?_map] at h2
      cases e : vs[i]? with
      | none => rw [e] at h2; cases h2
      | some a => rw [e] at h2; cases h2; rfl
    obtain ⟨u, hu, rv⟩ := r.get ha
    have hp : ps[i]? = some y := by
      rw [← S.pre, List.getElem?_take_of_lt (by (first | lia | omega))]; exact h1
    have ndP : ps.Nodup := by rw [← S.pre]; exact S.nd.sublist (List.take_sublist _ _)
    refine ⟨u, rv, ?_⟩
    rcases S.par y (List.mem_of_getElem? hp) with k | k
    · exact .inl ⟨k, bindL_get ndP hp hu k⟩
    · obtain ⟨c, e⟩ := cell_has (n := s.heap.objs.size + 1) k
      refine .inr ⟨.inl k, c, e, ?_⟩
      have q := x.cell y c e
      rw [bindC_get ndP hp hu (by show scope.names.lookup y ≠ _; rw [k]; decide)] at q
      exact q
  · exact e0.hok.fresh (Nat.le_of_lt (x.above y c (PySem.mem_of_lookup h)))
  · unfold start
    show _ = N.length
    rw [List.length_append, List.length_map, List.length_replicate]
    (first | lia | omega)
theorem fn_of {CX : CXT} {P : Program} {w : World} {K : PySem.W.Frag} {mg : Str → Option Value} {base : Heap} {k : Nat} {f : Addr} {name qual : Str} {params : Arguments} {body : List Stmt} {scope : Scope} {dV kV doc pm cdv ct oc : Value} {an od : Option Addr}
    {osl : Array (Option Value)} {N ps : List Str} {sp : Sp} (lk : K.lookup f = some ⟨oc, od, .func (PySem.W.fnOf name qual params body scope dV kV doc pm an cdv ct), osl⟩) (hcd : PySem.W.codeIn K cdv qual = true) (S : FnScope N ps scope)
    (len : ∀ vs H Q E, sp vs H Q E → vs.length = ps.length)
    (hbody : ∀ (A : Around) (outer : List Env) (s : Shared) (H : Hp) (vs : List V) (Q : VK) (E : XK), Room k (A.deeper (envOfC qual scope s.heap.objs.size f cdv)) → sp vs H Q E →
      ∃ t, PSs (cxOf CX P w K mg base N qual scope f cdv A outer s H E) body t ∧ t { nx := fun _ H' => Q .non H', rt := Q } (start N vs) H) :
    FnOk P w K mg base CX (k + 1) f (PySem.W.fnOf name qual params body scope dV kV doc pm an cdv ct) ps sp := by
  refine ⟨len, fun A outer s H args us vs Q E hr e0 hb r hsp => ?_⟩
  have hl := len _ _ _ _ hsp
  have KX : K.In s.heap := e0.mod.kin.keeps fun b o e => (e0.bs b o e).1
  have lim : s.heap.NoLimit := e0.mod.nolimit.keeps fun b o e => (e0.bs b o e).1
  have hkind : ∀ y ∈ ps.zip us, scope.names.lookup y.1 = some .local ∨ (scope.names.lookup y.1 = some .cell ∧ ((cellsFrom (s.heap.objs.size + 1) scope.names []).lookup y.1).isSome = true) := fun ⟨n, v⟩ hy => by
    rcases S.par n (List.of_mem_zip hy).1 with q | q
    · exact .inl q
    · exact .inr ⟨q, PySem.W.cellsFrom_some _ _ _ (.inl q)⟩
  refine codeAny_call_function hr.depth (KX _ _ lk) rfl S.co S.gen rfl (PySem.W.codeRec_of KX hcd) (hb _ _ _ _ ?_)
  refine wpAny_newFunctionEnv_cells S.kind hkind fun env he s1 x => ?_
  subst he
  refine ⟨lim.keeps x.toInCall.keep, codeAny_func ?_⟩
  obtain ⟨t, ht, hq⟩ := hbody A outer s H vs Q E (hr.deeper _) hsp
  have I : Inv (cxOf CX P w K mg base N qual scope f cdv A outer s H E) [] (start N vs) H s1 := inv_start S hr.hd e0 hl r x
  refine wpAny_mono (ht [] s1 (start N vs) H _ I hq) (fun fl s' hs => ?_) fun e s' hs => hs
  have fin : ∀ {σ' : St} {H' : Hp} {v : V} {u : Value}, Inv (cxOf CX P w K mg base N qual scope f cdv A outer s H E) [] σ' H' s' → RelV v u → Q v H' → CE outer P w H s Q u s' :=
    fun {σ' H' v u} J rv q => ⟨v, H', J.os, J.bare, J.base, J.hok, rv, q⟩
  cases fl with
  | ret u =>
    obtain ⟨v, σ', H', J, rv, q⟩ := hs
    exact fin J rv q
  | next =>
    obtain ⟨σ', H', J, q⟩ := hs
    exact fin (v := V.non) (u := Value.none) J rfl q
  | brk =>
    obtain ⟨_, _, _, q⟩ := hs
    exact False.elim q
  | cont =>
    obtain ⟨_, _, _, q⟩ := hs
    exact False.elim q
end L2
namespace L2
open PySem PySem.Spec PyProof.Rows
section
variable {X : Cx} {x : Str} {p pos : Pos} {e : Expr} {es : List Expr} {t : TA} {id T : String} {r : List V → Hp → VK → Prop}
noncomputable def tCB (r : List V → Hp → VK → Prop) (t : TA) : TE := fun σ H Q => t σ H fun vs H1 => r vs H1 Q
theorem pe_callB (hc : CallR X (.builtin id) r) (hg : Gl X x) (hm : X.mg x = none) (hv : bootBuiltins x = some (.builtin id)) (ha : PA X (e :: es) t) (hn : x ≠ "__name__" := by decide) (hdb : (x == ("__debug__" : Str)) = false := by decide)
    (he : starEach (e :: es) X.env = (false, eval e X.env) :: starEach es X.env := by rfl) (hpl : (backTo pos (starEach es X.env)).any (·.1) = false := by rfl) : PE X (.Call (.Name x p) (e :: es) [] pos) (tCB r t) := by
  intro pins s σ H Q I h
  refine wpAny_Call_Name_kw (ld_blt I hg hm hv ?_ hn hdb)
  exact PyProof.Rows.callWith_builtin1 (thn (ha pos pins s σ H _ I h) fun us s1 ⟨vs, H1, I1, r1, q1⟩ => hc pins s1 σ H1 vs us Q I1 r1 q1) he hpl
theorem pe_callTy (hc : CallR X (.type T) r) (hg : Gl X x) (hm : X.mg x = none) (hv : bootBuiltins x = some (.type T)) (ha : PA X (e :: es) t) (hn : x ≠ "__name__" := by decide) (hdb : (x == ("__debug__" : Str)) = false := by decide)
    (he : starEach (e :: es) X.env = (false, eval e X.env) :: starEach es X.env := by rfl) (hpl : (backTo pos (starEach es X.env)).any (·.1) = false := by rfl) : PE X (.Call (.Name x p) (e :: es) [] pos) (tCB r t) := by
  intro pins s σ H Q I h
  refine wpAny_Call_Name_kw (ld_blt I hg hm hv ?_ hn hdb)
  exact PyProof.Rows.callWith_type1 (thn (ha pos pins s σ H _ I h) fun us s1 ⟨vs, H1, I1, r1, q1⟩ => hc pins s1 σ H1 vs us Q I1 r1 q1) he hpl
end
end L2
namespace L2
open PySem PySem.Spec PyProof.Rows
section
variable {κ : Type} [DecidableEq κ]
noncomputable def valV (kvs : List (κ × V)) (k : κ) : Option V := (kvs.find? fun kv => decide (kv.1 = k)).map (·.2)
noncomputable def putK (kvs : List (κ × V)) (k : κ) (v : V) : List (κ × V) :=
  if (kvs.any fun kv => decide (kv.1 = k)) = true then kvs.map (fun kv => if kv.1 = k then (kv.1, v) else kv) else kvs ++ [(k, v)]
theorem valV_pos {p : κ × V} {r : List (κ × V)} {k : κ} (e : p.1 = k) : valV (p :: r) k = some p.2 := by simp [valV, List.find?_cons, e]
theorem valV_neg {p : κ × V} {r : List (κ × V)} {k : κ} (e : ¬ p.1 = k) : valV (p :: r) k = valV r k := by simp [valV, List.find?_cons, e]
theorem valV_any (k : κ) : ∀ kvs : List (κ × V), (kvs.any fun kv => decide (kv.1 = k)) = (valV kvs k).isSome
  | [] => rfl
  | p :: r => by
    rw [List.any_cons]
    by_cases e : p.1 = k
    · simp only [valV_pos e, decide_eq_true e, Bool.true_or, Option.isSome_some]
    · rw [valV_neg e, decide_eq_false e, Bool.false_or]; exact valV_any k r
theorem valV_map (k j : κ) (y : V) : ∀ kvs : List (κ × V), valV (kvs.map fun kv => if kv.1 = k then (kv.1, y) else kv) j = (valV kvs j).map fun x => if j = k then y else x
  | [] => rfl
  | p :: r => by
    have ih := valV_map k j y r
    rw [List.map_cons]
    by_cases h : p.1 = k
    · rw [if_pos h]
      by_cases e : p.1 = j
      · rw [valV_pos (p := (p.1, y)) e, valV_pos e, Option.map_some, if_pos (e.symm.trans h)]
      · rw [valV_neg (p := (p.1, y)) e, valV_neg e, ih]
    · rw [if_neg h]
      by_cases e : p.1 = j
      · rw [valV_pos (p := p) e, valV_pos e, Option.map_some, if_neg (fun z => h (e.trans z))]
      · rw [valV_neg (p := p) e, valV_neg e, ih]
theorem valV_snoc (k j : κ) (y : V) : ∀ kvs : List (κ × V), valV kvs k = none → valV (kvs ++ [(k, y)]) j = if j = k then some y else valV kvs j
  | [], _ => by
    by_cases e : k = j
    · rw [if_pos e.symm]; exact valV_pos (p := (k, y)) e
    · rw [if_neg (fun z => e z.symm)]; exact valV_neg (p := (k, y)) e
  | p :: r, hn => by
    rw [List.cons_append]
    have hk : ¬ p.1 = k := fun z => by rw [valV_pos z] at hn; cases hn
    rw [valV_neg hk] at hn
    have ih := valV_snoc k j y r hn
    by_cases e : p.1 = j
    · rw [valV_pos e, valV_pos e, if_neg (fun z => hk (e.trans z))]
    · rw [valV_neg e, valV_neg e, ih]
theorem valV_put (kvs : List (κ × V)) (k j : κ) (y : V) : valV (putK kvs k y) j = if j = k then some y else valV kvs j := by
  unfold putK
  by_cases a : (kvs.any fun kv => decide (kv.1 = k)) = true
  · rw [if_pos a, valV_map]
    rw [valV_any] at a
    by_cases e : j = k
    · obtain ⟨x, hx⟩ := Option.isSome_iff_exists.mp a
      rw [if_pos e, e, hx, Option.map_some, if_pos rfl]
    · rw [if_neg e]
      cases valV kvs j with
      | none => rfl
      | some x => rw [Option.map_some, if_neg e]
  · rw [if_neg a]
    refine valV_snoc k j y kvs ?_
    rw [valV_any] at a
    cases q : valV kvs k with
    | none => rfl
    | some x => rw [q] at a; exact (a rfl).elim
theorem length_putK (kvs : List (κ × V)) (k : κ) (v : V) : (putK kvs k v).length ≤ kvs.length + 1 := by
  unfold putK
  split
  · rw [List.length_map]; (first | lia | omega)
  · rw [List.length_append, List.length_cons, List.length_nil]; (first | lia | omega)
theorem putK_new {kvs : List (κ × V)} {k : κ} (v : V) (h : valV kvs k = none) : putK kvs k v = kvs ++ [(k, v)] := by
  unfold putK
  rw [valV_any, h]
  exact if_neg (by decide)
theorem RelO.isSome_eq {o : Option V} {u : Option Value} (r : RelO o u) : o.isSome = u.isSome := by
  cases o with
  | none => cases u with
    | none => rfl
    | some _ => exact (show False from r).elim
  | some _ => cases u with
    | none => exact (show False from r).elim
    | some _ => rfl
theorem RelO.getD {o : Option V} {u : Option Value} {d : V} {d' : Value} (r : RelO o u) (rd : RelV d d') : RelV (o.getD d) (u.getD d') := by
  cases o with
  | none => cases u with
    | none => exact rd
    | some _ => exact (show False from r).elim
  | some _ => cases u with
    | none => exact (show False from r).elim
    | some _ => exact r
theorem KV.val {kvs : List (κ × V)} {vs : List (κ × Value)} (r : KV kvs vs) (k : κ) : RelO (valV kvs k) (valueAt vs k) := by
  unfold KV at r
  induction r with
  | nil => exact True.intro
  | @cons p q ps qs h t ih =>
    obtain ⟨h1, h2⟩ := h
    by_cases e : p.1 = k
    · have e' : q.1 = k := h1.symm.trans e
      have b : valueAt (q :: qs) k = some q.2 := by simp [valueAt, List.find?_cons, e']
      rw [valV_pos e, b]; exact h2
    · have e' : ¬ q.1 = k := fun z => e (h1.trans z)
      have b : valueAt (q :: qs) k = valueAt qs k := by simp [valueAt, List.find?_cons, e']
      rw [valV_neg e, b]; exact ih
theorem KV.any {kvs : List (κ × V)} {vs : List (κ × Value)} (r : KV kvs vs) (k : κ) : (kvs.any fun kv => decide (kv.1 = k)) = vs.any fun kv => decide (kv.1 = k) := by
  unfold KV at r
  induction r with
  | nil => rfl
  | cons h t ih => rw [List.any_cons, List.any_cons, ih, h.1]
theorem KV.repl {kvs : List (κ × V)} {vs : List (κ × Value)} (r : KV kvs vs) (k : κ) {y : V} {u : Value} (ry : RelV y u) :
    KV (kvs.map fun kv => if kv.1 = k then (kv.1, y) else kv) (vs.map fun kv => if kv.1 = k then (kv.1, u) else kv) := by
  unfold KV at r ⊢
  induction r with
  | nil => exact .nil
  | @cons p q ps qs h t ih =>
    rw [List.map_cons, List.map_cons]
    refine .cons ?_ ih
    obtain ⟨h1, h2⟩ := h
    by_cases e : p.1 = k
    · rw [if_pos e, if_pos (h1.symm.trans e)]; exact ⟨h1, ry⟩
    · rw [if_neg e, if_neg (fun z => e (h1.trans z))]; exact ⟨h1, h2⟩
theorem KV.put {kvs : List (κ × V)} {vs : List (κ × Value)} (r : KV kvs vs) (k : κ) {y : V} {u : Value} (ry : RelV y u) : KV (putK kvs k y) (stored vs k u) := by
  unfold putK stored
  rw [r.any k]
  by_cases e : (vs.any fun kv => decide (kv.1 = k)) = true
  · rw [if_pos e, if_pos e]; exact r.repl k ry
  · rw [if_neg e, if_neg e]; exact Paired.snoc r ⟨rfl, ry⟩
theorem KV.keys {kvs : List (κ × V)} {vs : List (κ × Value)} (r : KV kvs vs) : kvs.map (·.1) = vs.map (·.1) := by
  unfold KV at r
  induction r with
  | nil => rfl
  | cons h t ih => rw [List.map_cons, List.map_cons, ih, h.1]
theorem KV.length {kvs : List (κ × V)} {vs : List (κ × Value)} (r : KV kvs vs) : kvs.length = vs.length := Paired.length r
end
theorem kV_is {P : Program} {w : World} {k : Key} {u : Value} (r : RelV (kV k) u) : (mixKind P w).is k u = true := by
  cases k with
  | inl i => obtain ⟨t, e⟩ := (show ∃ t, u = Value.int i t from r); subst e; exact mixKind_int P w i t
  | inr x => obtain ⟨t, e⟩ := (show ∃ t, u = Value.str x t from r); subst e; exact mixKind_str P w x t
theorem items_are {P : Program} {w : World} : ∀ {ks : List Key} {us : List Value}, Vals (ks.map kV) us → ItemsAre (mixKind P w) ks us
  | [], _, r => by rw [List.map_nil] at r; cases r; exact .nil
  | k :: ks, _, r => by
    rw [List.map_cons] at r
    cases r with
    | cons h t => exact .cons (kV_is h) (items_are t)
noncomputable abbrev KT (H : Hp) : List (List Key × V) → List (List Key × Addr × Value) → Prop := Paired fun p q => p.1 = q.1 ∧ H q.2.1 = some (.tup (p.1.map kV)) ∧ RelV p.2 q.2.2
theorem KT.val {H : Hp} {kvs : List (List Key × V)} {xs : List (List Key × Addr × Value)} (r : KT H kvs xs) (k : List Key) : RelO (valV kvs k) ((atKey xs k).map (·.2)) := by
  induction r with
  | nil => exact True.intro
  | @cons p q ps qs h t ih =>
    obtain ⟨h1, _, h2⟩ := h
    by_cases e : p.1 = k
    · have e' : q.1 = k := h1.symm.trans e
      have b : atKey (q :: qs) k = some q.2 := by simp [atKey, List.find?_cons, e']
      rw [valV_pos e, b]; exact h2
    · have e' : ¬ q.1 = k := fun z => e (h1.trans z)
      have b : atKey (q :: qs) k = atKey qs k := by simp [atKey, List.find?_cons, e']
      rw [valV_neg e, b]; exact ih
theorem KT.repl {H : Hp} {kvs : List (List Key × V)} {xs : List (List Key × Addr × Value)} (r : KT H kvs xs) (k : List Key) {y : V} {u : Value} (ry : RelV y u) :
    KT H (kvs.map fun kv => if kv.1 = k then (kv.1, y) else kv) (xs.map (putAt k u)) := by
  induction r with
  | nil => exact .nil
  | @cons p q ps qs h t ih =>
    rw [List.map_cons, List.map_cons]
    refine .cons ?_ ih
    obtain ⟨h1, h2, h3⟩ := h
    unfold putAt
    by_cases e : p.1 = k
    · rw [if_pos e, if_pos (h1.symm.trans e)]; exact ⟨h1, h2, ry⟩
    · rw [if_neg e, if_neg (fun z => e (h1.trans z))]; exact ⟨h1, h2, h3⟩
theorem KT.put {H : Hp} {kvs : List (List Key × V)} {xs : List (List Key × Addr × Value)} (r : KT H kvs xs) (k : List Key) {b : Addr} {y : V} {u : Value} (hb : H b = some (.tup (k.map kV))) (ry : RelV y u) :
    KT H (putK kvs k y) (storedH xs k b u) := by
  have e : (kvs.any fun kv => decide (kv.1 = k)) = (atKey xs k).isSome := by
    rw [valV_any, (r.val k).isSome_eq, Option.isSome_map]
  unfold putK storedH
  rw [e]
  by_cases q : (atKey xs k).isSome = true
  · rw [if_pos q, if_pos q]; exact r.repl k ry
  · rw [if_neg q, if_neg q]; exact Paired.snoc r ⟨rfl, hb, ry⟩
theorem KT.keeps {H H' : Hp} {kvs : List (List Key × V)} {xs : List (List Key × Addr × Value)} (r : KT H kvs xs) (ht : ∀ b ys, H b = some (.tup ys) → H' b = some (.tup ys)) : KT H' kvs xs :=
  Paired.mapP r fun _ _ z => ⟨z.1, ht _ _ z.2.1, z.2.2⟩
section
variable {P : Program} {w : World} {H : Hp} {h : Heap} {a : Addr}
theorem rd_of {u : HO} (ok : HOk P w H h) (e : Rd H a u) : ObjOk P w H h a u := e.ok ok
theorem dk_rd {kvs : List (Key × V)} (ok : HOk P w H h) (e : Rd H a (.dK kvs)) : kvs.length ≤ sizeLine ∧ (a == sysModules) = false ∧ ∃ vs, KV kvs vs ∧ h.DictOf (mixKind P w) a vs :=
  show ObjOk P w H h a (.dK kvs) from rd_of ok e
theorem dk_of {kvs : List (Key × V)} (ok : HOk P w H h) (e : H a = some (.dK kvs)) : kvs.length ≤ sizeLine ∧ (a == sysModules) = false ∧ ∃ vs, KV kvs vs ∧ h.DictOf (mixKind P w) a vs := dk_rd ok (.inl e)
theorem key_of {ks : List Key} (ok : HOk P w H h) (e : H a = some (.tup (ks.map kV))) : (tupleKind (mixKind P w)).is h ks a := by
  obtain ⟨_, its, r, o, h1, h2, n, h3⟩ := (show ObjOk P w H h a (.tup (ks.map kV)) from ok a _ e)
  exact ⟨o, its.toArray, n, h1, h2, h3, by simpa using items_are r⟩
theorem dt_rd {kvs : List (List Key × V)} (ok : HOk P w H h) (e : Rd H a (.dT kvs)) : kvs.length ≤ sizeLine ∧ (a == sysModules) = false ∧
    ∃ xs, KT H kvs xs ∧ h.DictOfH (tupleKind (mixKind P w)) a xs := by
  obtain ⟨z, y, xs, r, o, es, ep, h1, h2, h3, h4, h5⟩ := (show ObjOk P w H h a (.dT kvs) from rd_of ok e)
  refine ⟨z, y, xs, r, o, es, ep, h1, h2, h3, h4, fun x hx => ?_, h5⟩
  have all : ∀ {l : List (List Key × V)} {m : List (List Key × Addr × Value)}, KT H l m → ∀ x ∈ m, (tupleKind (mixKind P w)).is h x.1 x.2.1 := by
    intro l m q
    induction q with
    | nil => intro x hx; exact nomatch hx
    | @cons p q ps qs hq t ih =>
      intro x hx
      rcases List.mem_cons.mp hx with e | hx
      · subst e
        exact key_of ok (by rw [← hq.1]; exact hq.2.1)
      · exact ih x hx
  exact all r x hx
theorem dt_of {kvs : List (List Key × V)} (ok : HOk P w H h) (e : H a = some (.dT kvs)) : kvs.length ≤ sizeLine ∧ (a == sysModules) = false ∧
    ∃ xs, KT H kvs xs ∧ h.DictOfH (tupleKind (mixKind P w)) a xs := dt_rd ok (.inl e)
end
noncomputable def DGet (H : Hp) (a : Addr) (y : V) (r : Option V) : Prop :=
  (∃ kvs k, Rd H a (.dK kvs) ∧ y = kV k ∧ r = valV kvs k) ∨ ∃ kvs k b, Rd H a (.dT kvs) ∧ y = .ref b ∧ H b = some (.tup (k.map kV)) ∧ r = valV kvs k
noncomputable def DPut (H : Hp) (a : Addr) (y v : V) (H' : Hp) : Prop :=
  (∃ kvs k, H a = some (.dK kvs) ∧ y = kV k ∧ kvs.length < sizeLine ∧ H' = upd H a (.dK (putK kvs k v))) ∨
  ∃ kvs k b, H a = some (.dT kvs) ∧ y = .ref b ∧ H b = some (.tup (k.map kV)) ∧ kvs.length < sizeLine ∧ H' = upd H a (.dT (putK kvs k v))
theorem DGet.k {H : Hp} {a : Addr} {kvs : List (Key × V)} {k : Key} (e : H a = some (.dK kvs)) : DGet H a (kV k) (valV kvs k) := .inl ⟨kvs, k, .inl e, rfl, rfl⟩
theorem DGet.t {H : Hp} {a b : Addr} {kvs : List (List Key × V)} {k : List Key} (e : H a = some (.dT kvs)) (eb : H b = some (.tup (k.map kV))) : DGet H a (.ref b) (valV kvs k) := .inr ⟨kvs, k, b, .inl e, rfl, eb, rfl⟩
theorem DPut.k {H : Hp} {a : Addr} {kvs : List (Key × V)} {k : Key} {v : V} (e : H a = some (.dK kvs)) (hl : kvs.length < sizeLine) : DPut H a (kV k) v (upd H a (.dK (putK kvs k v))) := .inl ⟨kvs, k, e, rfl, hl, rfl⟩
theorem DPut.t {H : Hp} {a b : Addr} {kvs : List (List Key × V)} {k : List Key} {v : V} (e : H a = some (.dT kvs)) (eb : H b = some (.tup (k.map kV))) (hl : kvs.length < sizeLine) :
    DPut H a (.ref b) v (upd H a (.dT (putK kvs k v))) := .inr ⟨kvs, k, b, e, rfl, eb, hl, rfl⟩
section
variable {X : Cx} {pins : List (Addr × Obj)} {σ : St} {H : Hp} {s : Shared} {a : Addr} {y v : V} {u r : Value} {o : Option V} {A : Around} {E : Value → Shared → Prop}
theorem Inv.big (I : Inv X pins σ H s) : sysModules < s.heap.objs.size := by
  have h : mainGlobals < s.heap.objs.size := (I.mod.glob.keeps I.bk).lt
  exact Nat.lt_trans (by decide) h
theorem d_getItem {Q : Value → Shared → Prop} (hu : A.units + 1 < cLine) (I : Inv X pins σ H s) (g : DGet H a y (some v)) (ry : RelV y u) (h : ∀ w' s', Inv X pins σ H s' → RelV v w' → Q w' s') :
    wpAny (model X.prog X.w) A (getItem (.ref a) u) Q E s := by
  rcases g with ⟨kvs, k, e, ey, l⟩ | ⟨kvs, k, b, e, ey, eb, l⟩
  · subst ey
    obtain ⟨z, hd, vs, rel, dd⟩ := dk_rd I.hok e
    obtain ⟨w', hw, rw'⟩ := RelO.some_of (v := v) (o := valueAt vs k) (by rw [l]; exact rel.val k)
    exact wpAny_getItem_of (kV_is ry) dd.mapOf hw (h w' _ (I.tok _) rw')
  · subst ey
    cases (show u = Value.ref b from ry)
    obtain ⟨z, hd, xs, rel, dd⟩ := dt_rd I.hok e
    obtain ⟨w', hw, rw'⟩ := RelO.some_of (v := v) (o := (atKey xs k).map (·.2)) (by rw [l]; exact rel.val k)
    obtain ⟨p, hp, hp2⟩ := Option.map_eq_some_iff.mp hw
    refine wpAny_getItem_heap (tupleKind_room_in1 hu) (key_of I.hok eb) dd hp ?_
    rw [hp2]
    exact h w' _ (I.tok _) rw'
theorem d_notIn {Q : Value → Shared → Prop} (hu : A.units + 1 < cLine) (I : Inv X pins σ H s) (g : DGet H a y o) (ry : RelV y u) (h : ∀ s', Inv X pins σ H s' → Q (.bool (!o.isSome)) s') :
    wpAny (model X.prog X.w) A (compareOp .NotIn u (.ref a)) Q E s := by
  rcases g with ⟨kvs, k, e, ey, l⟩ | ⟨kvs, k, b, e, ey, eb, l⟩
  · subst ey
    obtain ⟨z, hd, vs, rel, dd⟩ := dk_rd I.hok e
    refine wpAny_notIn_of (kV_is ry) hd dd.mapOf ?_
    rw [← (rel.val k).isSome_eq, ← l]
    exact h _ (I.tok _)
  · subst ey
    cases (show u = Value.ref b from ry)
    obtain ⟨z, hd, xs, rel, dd⟩ := dt_rd I.hok e
    refine wpAny_notIn_heap (tupleKind_room_in1 hu) (key_of I.hok eb) hd dd ?_
    have q := (rel.val k).isSome_eq
    rw [Option.isSome_map] at q
    rw [← q, ← l]
    exact h _ (I.tok _)
theorem d_write {h' : Heap} {t' : Nat} {ob : HO} (I : Inv X pins σ H s) (mu : Mut (H a)) (hs : Heap.SameBut a s.heap h') (he : ∃ q, h'.get? a = some q) (new : ObjOk X.prog X.w (upd H a ob) h' a ob) :
    Inv X pins σ (upd H a ob) { s with heap := h', toks := t' } :=
  I.write (x := a) (e := a) mu (.inl rfl) (fun b q hb z => (hs.2 b hb).trans z) he new
theorem dk_new {P : Program} {w : World} {H' : Hp} {h' : Heap} {kvs : List (Key × V)} {vs : List (Key × Value)} (z : kvs.length ≤ sizeLine) (hd : (a == sysModules) = false) (rel : KV kvs vs) (dd : h'.DictOf (mixKind P w) a vs) :
    ObjOk P w H' h' a (.dK kvs) := ⟨z, hd, vs, rel, dd⟩
theorem d_setItem {H' : Hp} {Q : Unit → Shared → Prop} (hu : A.units + 1 < cLine) (I : Inv X pins σ H s) (g : DPut H a y v H') (ry : RelV y u) (rv : RelV v r) (h : ∀ s', Inv X pins σ H' s' → Q () s') :
    wpAny (model X.prog X.w) A (setItem (.ref a) u r) Q E s := by
  rcases g with ⟨kvs, k, e, ey, l, eH⟩ | ⟨kvs, k, b, e, ey, eb, l, eH⟩
  · subst ey eH
    obtain ⟨z, hd, vs, rel, dd⟩ := dk_of I.hok e
    have hz : vs.length ≤ sizeLine := by rw [← rel.length]; exact z
    have hl : (putK kvs k v).length ≤ sizeLine := by have := length_putK kvs k v; (first | lia | omega)
    refine wpAny_setItem_pairs (hsz := hz) (kV_is ry) dd fun h' dd' hs => h _ ?_
    have he : ∃ q, h'.get? a = some q := let ⟨q, _, _, hq, _⟩ := dd'; ⟨q, hq⟩
    exact d_write I (by rw [e]; exact True.intro) hs he (dk_new hl hd (rel.put k rv) dd')
  · subst ey eH
    cases (show u = Value.ref b from ry)
    obtain ⟨z, hd, xs, rel, dd⟩ := dt_of I.hok e
    have hz : xs.length ≤ sizeLine := by rw [← Paired.length rel]; exact z
    have hl : (putK kvs k v).length ≤ sizeLine := by have := length_putK kvs k v; (first | lia | omega)
    refine wpAny_setItem_heap (hsz := hz) (tupleKind_room_in1 hu) (key_of I.hok eb) dd fun h' dd' hs => h _ ?_
    obtain ⟨q, es, ep, hq, h2, h3, h4, _, h5⟩ := dd'
    refine d_write I (by rw [e]; exact True.intro) hs ⟨q, hq⟩ ⟨hl, hd, _, (rel.put k eb rv).keeps fun c ys ec => ?_, q, es, ep, hq, h2, h3, h4, h5⟩
    rw [upd_ne (ne_of ec e (fun z => nomatch z))]
    exact ec
end
section
variable {X : Cx} {pins : List (Addr × Obj)} {σ : St} {H : Hp} {s : Shared} {a : Addr} {kvs : List (Key × V)} {k : Key} {u : Value} {A : Around} {E : Value → Shared → Prop}
end
noncomputable def NoSl (i : Expr) : Prop := ∀ ov iv, subscripted i false ov iv = operate [ov, iv] (getItem ov iv)
theorem subD_of {prog : Program} {w : World} {A : Around} {E : Value → Shared → Prop} {s : Shared} {env : Env} {value slice : Expr} {pos : Pos} {T id : String} {Q : Value → Shared → Prop}
    (hl : typeLookup (.type T) "__getitem__" = pure (some (.builtin id))) (hs : NoSl slice)
    (h : wpAny (model prog w) A (eval value env) (fun o s₁ => wpAny (model prog w) A (eval slice env) (fun i s₂ => s₂.TypeIs o T ∧ wpAny (model prog w) A (getItem o i) Q E s₂) E s₁) E s) :
    wpAny (model prog w) A (eval (.Subscript value slice pos) env) Q E s := by
  refine Subscript_ (wpAny_mono h (fun o s₁ h₁ => wpAny_mono h₁ (fun i s₂ h₂ => ?_) fun _ _ x => x) fun _ _ x => x)
  obtain ⟨hT, h₂⟩ := h₂
  unfold subscriptTail
  refine wpAny_bind ?_
  rw [getitemInPython_of_ne hT.not_modules]
  refine wpAny_bind (wpAny_specialOf hT hl ?_)
  have fin : wpAny (model prog w) A (subscripted slice false o i) (fun r s₃ => wpAny (model prog w) A (letTemporaryGo value o r >>= fun _ => pure r) Q E s₃) E s₂ := by
    rw [hs o i]
    exact wpAny_operating (wpAny_mono h₂ (fun r s₃ h₃ => wpAny_bind (wpAny_letTemporaryGo (wpAny_pure h₃))) fun _ _ x => x)
  first
    | exact wpAny_pure (wpAny_bind fin)
    | exact wpAny_bind (wpAny_pure (wpAny_bind fin))
    | exact wpAny_bind fin
theorem dict_typeIs {X : Cx} {pins : List (Addr × Obj)} {σ : St} {H : Hp} {s : Shared} {a : Addr} {y : V} {o : Option V} (I : Inv X pins σ H s) (g : DGet H a y o) : s.TypeIs (.ref a) "dict" := by
  rcases g with ⟨kvs, k, e, _, _⟩ | ⟨kvs, k, b, e, _, _, _⟩
  · obtain ⟨_, _, vs, _, dd⟩ := dk_rd I.hok e
    exact dd.typeIs
  · obtain ⟨_, _, xs, _, dd⟩ := dt_rd I.hok e
    exact dd.typeIs
noncomputable def tDGet (td ty : TE) : TE := fun σ H Q => td σ H fun x H1 => ty σ H1 fun y H2 => ∃ a v, x = .ref a ∧ DGet H2 a y (some v) ∧ Q v H2
noncomputable def tDNotIn (ty td : TE) : TE := fun σ H Q => ty σ H fun y H1 => td σ H1 fun x H2 => ∃ a o, x = .ref a ∧ DGet H2 a y o ∧ Q (.bl (!o.isSome)) H2
noncomputable def sDPut (td ty tv : TE) : TS := fun D σ H => tv σ H fun v H1 => td σ H1 fun x H2 => ty σ H2 fun y H3 => ∃ a H4, x = .ref a ∧ DPut H3 a y v H4 ∧ D.nx σ H4
section
variable {X : Cx} {o i e value : Expr} {pos pos' tpos : Pos} {td ty tv : TE}
theorem pe_dget (hu : X.A.units + 1 < cLine) (ho : PE X o td) (hi : PE X i ty) (hs : NoSl i) : PE X (.Subscript o i pos) (tDGet td ty) := by
  intro pins s σ H Q I h
  refine subD_of PySem.F.slot_dict_getitem.lookup hs (thn (ho pins s σ H _ I h) fun u s1 hh => ?_)
  obtain ⟨x, H1, I1, rx, q1⟩ := hh
  refine thn (hi pins s1 σ H1 _ I1 q1) fun iv s2 hh => ?_
  obtain ⟨y, H2, I2, ry, a, v, ex, g, q2⟩ := hh
  subst ex
  obtain rfl : u = Value.ref a := rx
  exact ⟨dict_typeIs I2 g, d_getItem hu I2 g ry fun w' s3 I3 rw' => ⟨v, H2, I3, rw', q2⟩⟩
theorem pc_dnotin (hu : X.A.units + 1 < cLine) (hi : PE X i ty) (ho : PE X o td) : PC X .NotIn i o (tDNotIn ty td) := by
  intro pins s σ H Q I h
  refine thn (hi pins s σ H _ I h) fun iv s1 hh => ?_
  obtain ⟨y, H1, I1, ry, q1⟩ := hh
  refine thn (ho pins s1 σ H1 _ I1 q1) fun u s2 hh => ?_
  obtain ⟨x, H2, I2, rx, a, ov, ex, g, q2⟩ := hh
  subst ex
  obtain rfl : u = Value.ref a := rx
  exact d_notIn hu I2 g ry fun s3 I3 => ⟨.bl (!ov.isSome), H2, I3, rfl, q2⟩
theorem ps_dput (hu : X.A.units + 1 < cLine) (ho : PE X o td) (hi : PE X i ty) (hv : PE X value tv) (hs : swapsWith value (some (.Subscript o i pos')) pos.line X.env = pure false) :
    PS X (.Assign [.Subscript o i pos'] value pos) (sDPut td ty tv) := by
  intro pins s σ H D I h
  refine wpAny_Assign_Subscript (thn (hv pins s σ H _ I h) fun r s1 ⟨v, H1, I1, rv, q1⟩ => thn (ho pins s1 σ H1 _ I1 q1) fun u s2 ⟨x, H2, I2, rx, q2⟩ => thn (hi pins s2 σ H2 _ I2 q2) fun iv s3 ⟨y, H3, I3, ry, a, H4, ex, g, q3⟩ => ?_) hs
  subst ex
  obtain rfl : u = Value.ref a := rx
  exact d_setItem hu I3 g ry rv fun s4 I4 => ⟨σ, H4, I4, q3⟩
end
theorem dk_empty {P : Program} {w : World} {H : Hp} (h : Heap) (hb : sysModules < h.objs.size) : ObjOk P w H (h.push { cls := .type "dict", data := .dict #[] }) h.objs.size (.dK []) :=
  ⟨Nat.zero_le _, beq_eq_false_iff_ne.mpr (Ne.symm (Nat.ne_of_lt hb)), [], .nil, Heap.DictOf.new h⟩
noncomputable def tDNewK : TE := fun _ H Q => ∀ p, H p = none → Q (.ref p) (upd H p (.dK []))
section
variable {X : Cx} {pos : Pos}
theorem pe_dnewK : PE X (.Dict [] [] pos) tDNewK := fun pins s σ H Q I h =>
  wpAny_Dict_empty ⟨.ref s.heap.objs.size, _, I.laid (a := s.heap.objs.size) (o := .dK []) (t' := s.toks) (fun _ _ q => Heap.get?_push_of_some _ q) (Nat.le_refl _) (dk_empty s.heap I.big), rfl, h _ (I.hok.fresh (Nat.le_refl _))⟩
end
noncomputable def tPairs : List (TE × TE) → St → Hp → (List (V × V) → Hp → Prop) → Prop
  | [], _, H, Q => Q [] H
  | (tk, tv) :: r, σ, H, Q => tk σ H fun x H1 => tv σ H1 fun y H2 => tPairs r σ H2 fun ps H3 => Q ((x, y) :: ps) H3
noncomputable abbrev VV : List (V × V) → List (Value × Value) → Prop := Paired fun p q => RelV p.1 q.1 ∧ RelV p.2 q.2
noncomputable def PPs (X : Cx) (pos : Pos) (keys : List (Option Expr)) (values : List Expr) (trs : List (TE × TE)) : Prop :=
  ∀ (pins : List (Addr × Obj)) (s : Shared) (σ : St) (H : Hp) (Q : List (V × V) → Hp → Prop), Inv X pins σ H s → tPairs trs σ H Q →
    wpAny (model X.prog X.w) X.A (evalPairs (pairTrees keys values X.env pos)) (fun vs s' => ∃ ps H', Inv X pins σ H' s' ∧ VV ps vs ∧ Q ps H') X.xe s
theorem pps_nil {X : Cx} {pos : Pos} : PPs X pos [] [] [] := fun pins s σ H Q I h => pairTrees_nil_walk ⟨[], H, I, .nil, h⟩
theorem pps_cons {X : Cx} {pos : Pos} {k v : Expr} {ks : List (Option Expr)} {vs : List Expr} {tk tv : TE} {trs : List (TE × TE)} (hk : PE X k tk) (hv : PE X v tv) (hr : PPs X pos ks vs trs) :
    PPs X pos (some k :: ks) (v :: vs) ((tk, tv) :: trs) := fun pins s σ H Q I h =>
  pairTrees_cons_walk (thn (hk pins s σ H _ I h) fun u s1 ⟨x, H1, I1, rx, q1⟩ => thn (hv pins s1 σ H1 _ I1 q1) fun w2 s2 ⟨y, H2, I2, ry, q2⟩ =>
    thn (hr pins s2 σ H2 _ I2 q2) fun ws s3 ⟨ps, H3, I3, rel, q3⟩ => ⟨(x, y) :: ps, H3, I3, .cons ⟨rx, ry⟩ rel, q3⟩)
noncomputable def mergeK (kvs more : List (Key × V)) : List (Key × V) := more.foldl (fun acc kv => putK acc kv.1 kv.2) kvs
theorem KV.merge : ∀ {more : List (Key × V)} {rs : List (Key × Value)} {kvs : List (Key × V)} {vs : List (Key × Value)}, KV more rs → KV kvs vs → KV (mergeK kvs more) (merged vs rs) := by
  intro more rs kvs vs r
  unfold KV at r
  induction r generalizing kvs vs with
  | nil => intro q; exact q
  | @cons p q ps qs h t ih =>
    intro r0
    have e : KV (putK kvs p.1 p.2) (stored vs q.1 q.2) := by
      have := r0.put p.1 h.2
      rw [← h.1]; exact this
    exact ih e
theorem length_mergeK : ∀ (more kvs : List (Key × V)), (mergeK kvs more).length ≤ kvs.length + more.length
  | [], kvs => by show kvs.length ≤ kvs.length + 0; (first | lia | omega)
  | p :: r, kvs => by
    have h1 := length_mergeK r (putK kvs p.1 p.2)
    have h2 := length_putK kvs p.1 p.2
    show (mergeK (putK kvs p.1 p.2) r).length ≤ _
    rw [List.length_cons]; (first | lia | omega)
theorem carries_of {P : Program} {w : World} : ∀ {kvs : List (Key × V)} {ws : List (Value × Value)}, VV (kvs.map fun kv => (kV kv.1, kv.2)) ws → ∃ rs, Carries (mixKind P w) ws rs ∧ KV kvs rs
  | [], _, r => by rw [List.map_nil] at r; cases r; exact ⟨[], True.intro, .nil⟩
  | p :: kvs, _, r => by
    rw [List.map_cons] at r
    cases r with
    | @cons a b as bs h t =>
      obtain ⟨rs, c, q⟩ := carries_of (P := P) (w := w) t
      obtain ⟨b1, b2⟩ := b
      exact ⟨(p.1, b2) :: rs, ⟨kV_is h.1, rfl, c⟩, .cons ⟨rfl, h.2⟩ q⟩
noncomputable def tDisp (trs : List (TE × TE)) : TE := fun σ H Q => ∀ p, H p = none → tPairs trs σ (upd H p (.dK [])) fun ps H2 => H2 p = some (.dK []) ∧ ∃ kvs : List (Key × V), ps = kvs.map (fun kv => (kV kv.1, kv.2)) ∧ kvs.length ≤ 15 ∧ Q (.ref p) (upd H2 p (.dK (mergeK [] kvs)))
theorem pe_disp {X : Cx} {pos : Pos} {keys : List (Option Expr)} {values : List Expr} {trs : List (TE × TE)} (h : PPs X pos keys values trs) (hall : keys.all (·.isSome) = true) (hl : keys.length = values.length) (h0 : keys ≠ [])
    (h15 : keys.length ≤ 15) : PE X (.Dict keys values pos) (tDisp trs) := by
  intro pins s σ H Q I q
  have hn := I.hok.fresh (Nat.le_refl s.heap.objs.size)
  have I1 := I.laid (a := s.heap.objs.size) (o := .dK []) (h' := s.heap.push { cls := .type "dict", data := .dict #[] }) (t' := s.toks) (fun _ _ q => Heap.get?_push_of_some _ q) (Nat.le_refl _) (dk_empty s.heap I.big)
  refine wpAny_Dict_walk (knd := mixKind X.prog X.w) hall hl h0 h15 (thn (h pins _ σ _ _ I1 (q _ hn)) fun ws s2 hh => ?_)
  obtain ⟨ps, H2, I2, rel, e, kvs, ep, lk, q2⟩ := hh
  subst ep
  obtain ⟨rs, c, rk⟩ := carries_of (P := X.prog) (w := X.w) rel
  obtain ⟨z, hd, vs0, r0, dd⟩ := dk_of I2.hok e
  cases r0
  refine ⟨rs, c, dd, fun h' dd' hs => ⟨.ref s.heap.objs.size, _, ?_, rfl, q2⟩⟩
  have hz : (mergeK [] kvs).length ≤ sizeLine := by
    have h1 := length_mergeK kvs []
    rw [List.length_nil] at h1
    rw [sizeLine_eq]; (first | lia | omega)
  have he : ∃ q, h'.get? s.heap.objs.size = some q := let ⟨q, _, _, hq, _⟩ := dd'; ⟨q, hq⟩
  exact d_write I2 (by rw [e]; exact True.intro) hs he (dk_new hz hd (rk.merge .nil) dd')
structure M1 (X : Cx) (o : Expr) (m : Str) (apos : Pos) (e : Expr) (cpos : Pos) : Prop where
  base : attributeBase o m X.env (eval o X.env) = eval o X.env
  few : ((backTo cpos (starEach [e] X.env)).all (fun x => !x.1) && (backToKw cpos (keywordEach [] X.env)).all (fun x => x.1.isSome)
    && decide (([e] : List Expr).length + ([] : List Keyword).length + (if ([] : List Keyword).isEmpty then 0 else 1) < 30)) = true
  line : (apos.endLine == cpos.line) = true
  trees : backTo cpos (starEach [e] X.env) = [(false, eval e X.env)]
structure M2 (X : Cx) (o : Expr) (m : Str) (apos : Pos) (e f : Expr) (cpos : Pos) : Prop where
  base : attributeBase o m X.env (eval o X.env) = eval o X.env
  few : ((backTo cpos (starEach [e, f] X.env)).all (fun x => !x.1) && (backToKw cpos (keywordEach [] X.env)).all (fun x => x.1.isSome)
    && decide (([e, f] : List Expr).length + ([] : List Keyword).length + (if ([] : List Keyword).isEmpty then 0 else 1) < 30)) = true
  line : (apos.endLine == cpos.line) = true
  trees : backTo cpos (starEach [e, f] X.env) = [(false, eval e X.env), (false, eval f X.env)]
noncomputable def IsD (H : Hp) (a : Addr) : Prop := (∃ kvs, Rd H a (.dK kvs)) ∨ ∃ kvs, Rd H a (.dT kvs)
theorem isD_at {X : Cx} {pins : List (Addr × Obj)} {σ : St} {H : Hp} {s : Shared} {a : Addr} (I : Inv X pins σ H s) (d : IsD H a) :
    s.TypeIs (.ref a) "dict" ∧ (∀ b, Value.ref a = .ref b → ∃ ob, s.heap.get? b = some ob ∧ ob.dict = none) ∧ (a == sysModules) = false := by
  rcases d with ⟨kvs, e⟩ | ⟨kvs, e⟩
  · obtain ⟨_, hd, vs, _, dd⟩ := dk_rd I.hok e
    refine ⟨dd.typeIs, fun b q => ?_, hd⟩
    cases q
    obtain ⟨ob, _, _, h1, h2, _⟩ := dd
    exact ⟨ob, h1, h2.2.1⟩
  · obtain ⟨_, hd, xs, _, dd⟩ := dt_rd I.hok e
    refine ⟨dd.typeIs, fun b q => ?_, hd⟩
    cases q
    obtain ⟨ob, _, _, h1, h2, _⟩ := dd
    exact ⟨ob, h1, h2.2.1⟩
section
variable {X : Cx} {pins : List (Addr × Obj)} {σ : St} {H : Hp} {s : Shared} {a : Addr} {y d : V} {u r : Value} {o : Option V} {A : Around} {E : Value → Shared → Prop}
theorem d_get2 {Q : Value → Shared → Prop} (hu : A.units + 1 < cLine) (I : Inv X pins σ H s) (g : DGet H a y o) (ry : RelV y u) (rd : RelV d r) (h : ∀ w' s', Inv X pins σ H s' → RelV (o.getD d) w' → Q w' s') :
    wpAny (model X.prog X.w) A (call (.builtin "dict.get") [.ref a, u, r]) Q E s := by
  rcases g with ⟨kvs, k, e, ey, l⟩ | ⟨kvs, k, b, e, ey, eb, l⟩
  · subst ey
    obtain ⟨z, hd, vs, rel, dd⟩ := dk_rd I.hok e
    refine call_meetsIn PySem.F.slot_dict_get dd.typeIs PySem.F.entry_dict_get (PySem.F.args_dict_get_3 _ _ _) (meets_dict_get_default (mixKind X.prog X.w) a (kV_is ry) hd r) ⟨_, dd.mapOf, h _ _ (I.tok _) ?_⟩
    rw [l]
    exact (rel.val k).getD rd
  · subst ey
    cases (show u = Value.ref b from ry)
    obtain ⟨z, hd, xs, rel, dd⟩ := dt_rd I.hok e
    refine call_meetsIn PySem.F.slot_dict_get dd.typeIs PySem.F.entry_dict_get (PySem.F.args_dict_get_3 _ _ _) (meetsH_dict_get_default (tupleKind (mixKind X.prog X.w)) a b hd r) ⟨tupleKind_room_in1 hu, k, xs, key_of I.hok eb, dd, h _ _ (I.tok _) ?_⟩
    rw [l]
    exact (rel.val k).getD rd
end
section
variable {X : Cx} {o e f : Expr} {apos cpos : Pos} {td ty tx : TE}
end
section
variable {X : Cx} {pins : List (Addr × Obj)} {σ : St} {H : Hp} {s : Shared} {a : Addr} {kvs : List (Key × V)} {A : Around} {E : Value → Shared → Prop}
end
section
variable {X : Cx} {pins : List (Addr × Obj)} {σ : St} {H : Hp} {s : Shared} {a : Addr} {y : V} {u : Value} {A : Around} {E : Value → Shared → Prop}
end
end L2
namespace HT
open PySem PyProof.Rows
noncomputable def lexLt : List Int → List Int → Bool
  | [], [] => false
  | [], _ :: _ => true
  | _ :: _, [] => false
  | x :: xs, y :: ys => if x = y then lexLt xs ys else decide (x < y)
section
open PySem.SeqAt
open PySem.AutoSeq1 (wpAny_loadPart')
open PySem.MeetsSeq PySem.MeetsSeq2 PySem.MeetsSeq3
end
section
variable {prog : Program} {w : World} {A : Around} {E : Value → Shared → Prop} {s : Shared}
noncomputable def sIx (n d : Nat) : Option Int → Nat
  | none => d
  | some v => if v < 0 then (v + (n : Int)).toNat else min v.toNat n
theorem sIx_nat (n d k : Nat) : sIx n d (some (k : Int)) = min k n := by
  show (if (k : Int) < 0 then ((k : Int) + (n : Int)).toNat else min (k : Int).toNat n) = min k n
  rw [if_neg (by (first | lia | omega)), Int.toNat_natCast]
end
end HT
namespace L2
open PySem PySem.Spec PyProof.Rows
noncomputable abbrev TO := St → Hp → (Option Int → Hp → Prop) → Prop
noncomputable def PO (X : Cx) (e : Option Expr) (t : TO) : Prop :=
  ∀ (pins : List (Addr × Obj)) (s : Shared) (σ : St) (H : Hp) (Q : Option Int → Hp → Prop), Inv X pins σ H s → t σ H Q →
    wpAny (model X.prog X.w) X.A (evalPart e X.env) (fun u s' => ∃ o H', Inv X pins σ H' s' ∧ IsPart u o ∧ Q o H') X.xe s
noncomputable def tPart (t : TE) : TO := fun σ H Q => t σ H fun x H1 => ∃ i, x = .int i ∧ Q (some i) H1
theorem intsAre_of {ns : List Int} : ∀ {us : List Value}, Vals (ns.map V.int) us → IntsAre us ns := by
  induction ns with
  | nil => intro us r; rw [List.map_nil] at r; cases r; exact .nil
  | cons n ns ih =>
    intro us r
    rw [List.map_cons] at r
    cases r with
    | cons r1 r2 =>
      obtain ⟨t, e⟩ := r1
      subst e
      exact .cons n t (ih r2)
section
variable {X : Cx} {e : Expr} {te : TE} {lo hi : Option Expr} {tl th : TO} {pos p2 : Pos}
theorem po_some (h : PE X e te) : PO X (some e) (tPart te) := by
  intro pins s σ H Q I hw
  rw [evalPart_some]
  refine thn (h pins s σ H _ I hw) fun u s1 hh => ?_
  obtain ⟨x, H1, I1, r1, q1⟩ := hh
  obtain ⟨i, rfl, q⟩ := q1
  obtain ⟨t, rfl⟩ := r1
  exact ⟨some i, H1, I1, .int i t, q⟩
noncomputable def SlR (X : Cx) (r : V → Option Int → Option Int → Hp → VK → Prop) : Prop :=
  ∀ (pins : List (Addr × Obj)) (s : Shared) (σ : St) (H : Hp) (x : V) (v vl vu : Value) (lo hi : Option Int) (sl : Addr) (Q : VK), Inv X pins σ H s → RelV x v → s.heap.IsSliceOf sl vl vu .none → IsPart vl lo → IsPart vu hi → r x lo hi H Q →
    ∃ T id, typeLookup (.type T) "__getitem__" = pure (some (.builtin id)) ∧ s.TypeIs v T ∧ wpAny (model X.prog X.w) X.A (getItem v (.ref sl)) (EP X pins σ Q) X.xe s
noncomputable def tSl (r : V → Option Int → Option Int → Hp → VK → Prop) (te : TE) (tl th : TO) : TE := fun σ H Q => te σ H fun x H1 => tl σ H1 fun l H2 => th σ H2 fun u H3 => r x l u H3 Q
theorem pe_slice {r : V → Option Int → Option Int → Hp → VK → Prop} (hr : SlR X r) (he : PE X e te) (hl : PO X lo tl) (hu : PO X hi th) : PE X (.Subscript e (.Slice lo hi none p2) pos) (tSl r te tl th) := by
  intro pins s σ H Q I h
  refine Subscript_ (thn (he pins s σ H _ I h) fun v s1 hh => ?_)
  obtain ⟨x, H1, I1, r1, q1⟩ := hh
  refine wpAny_Slice (thn (hl pins s1 σ H1 _ I1 q1) fun vl s2 hh => ?_)
  obtain ⟨l, H2, I2, pl, q2⟩ := hh
  refine thn (hu pins s2 σ H2 _ I2 q2) fun vu s3 hh => ?_
  obtain ⟨u, H3, I3, pu, q3⟩ := hh
  rw [evalPart_none]
  refine wpAny_pure ?_
  have I4 : Inv X pins σ H3 { s3 with heap := s3.heap.push { cls := .type "slice", data := .fields #[vl, vu, .none] } } := I3.kept (t' := s3.toks) fun b ob q => Heap.get?_push_of_some _ q
  obtain ⟨T, id, hT, ht, hg⟩ := hr pins { s3 with heap := s3.heap.push { cls := .type "slice", data := .fields #[vl, vu, .none] } } σ H3 x v vl vu l u s3.heap.objs.size Q I4 r1 (Heap.IsSliceOf.new ..) pl pu q3
  show wpAny (model X.prog X.w) X.A (subscriptTail e (.Slice lo hi none p2) v (.ref s3.heap.objs.size)) (EP X pins σ Q) X.xe { s3 with heap := s3.heap.push { cls := .type "slice", data := .fields #[vl, vu, .none] } }
  exact tail_any (ops := [.ref s3.heap.objs.size, v]) ht hT hg (by with_unfolding_all rfl)
noncomputable def cutV (xs : List V) (lo hi : Option Int) : List V := (xs.drop (HT.sIx xs.length 0 lo)).take (HT.sIx xs.length xs.length hi - HT.sIx xs.length 0 lo)
theorem cutV_length (xs : List V) (lo hi : Option Int) : (cutV xs lo hi).length ≤ xs.length := by
  unfold cutV
  rw [List.length_take, List.length_drop]
  (first | lia | omega)
end
end L2
namespace L2
open PySem PySem.Spec PyProof.Rows
noncomputable def ixN (n : Nat) (i : Int) : Option Nat := if 0 ≤ i then (if i < n then some i.toNat else none) else if -(n : Int) ≤ i then some (i + n).toNat else none
noncomputable def atI {α : Type} (xs : List α) (i : Int) : Option α := (ixN xs.length i).bind fun j => xs[j]?
theorem ixN_seq {n : Nat} {i : Int} {j : Nat} (h : ixN n i = some j) : seqIndex? i n = some j ∧ j < n ∧ -(n : Int) ≤ i ∧ i < n := by
  unfold ixN at h
  by_cases h0 : 0 ≤ i
  · rw [if_pos h0] at h
    by_cases h1 : i < n
    · rw [if_pos h1] at h
      have e : i.toNat = j := Option.some.inj h
      exact ⟨by rw [seqIndex_of h0 h1, e], by (first | lia | omega), by (first | lia | omega), h1⟩
    · rw [if_neg h1] at h; cases h
  · rw [if_neg h0] at h
    by_cases h1 : -(n : Int) ≤ i
    · rw [if_pos h1] at h
      have e : (i + n).toNat = j := Option.some.inj h
      exact ⟨by rw [seqIndex_neg (by (first | lia | omega)) h1, e], by (first | lia | omega), h1, by (first | lia | omega)⟩
    · rw [if_neg h1] at h; cases h
theorem atI_get {α : Type} {xs : List α} {i : Int} {v : α} (h : atI xs i = some v) : ∃ j, seqIndex? i xs.length = some j ∧ xs[j]? = some v ∧ j < xs.length ∧ -(xs.length : Int) ≤ i ∧ i < xs.length := by
  unfold atI at h
  cases e : ixN xs.length i with
  | none => rw [e] at h; cases h
  | some j =>
    rw [e] at h
    obtain ⟨h1, h2, h3, h4⟩ := ixN_seq e
    exact ⟨j, h1, h, h2, h3, h4⟩
theorem atI_nat {α : Type} {xs : List α} {j : Nat} {v : α} (h : xs[j]? = some v) : atI xs (j : Int) = some v := by
  have hj : j < xs.length := (List.getElem?_eq_some_iff.mp h).1
  have e : ixN xs.length (j : Int) = some j := by
    unfold ixN
    rw [if_pos (by (first | lia | omega)), if_pos (by (first | lia | omega))]; simp
  unfold atI; rw [e]; exact h
theorem atI_last {α : Type} (xs : List α) (v : α) : atI (xs ++ [v]) (-1) = some v := by
  have hl : (xs ++ [v]).length = xs.length + 1 := by simp
  have e : ixN (xs ++ [v]).length (-1) = some xs.length := by
    unfold ixN
    rw [hl, if_neg (by decide), if_pos (by (first | lia | omega))]
    congr 1
    (first | lia | omega)
  unfold atI
  rw [e]
  show (xs ++ [v])[xs.length]? = some v
  simp
noncomputable def PlainIx (b : Expr) : Prop := ∀ o i, subscripted b false o i = operate [o, i] (getItem o i)
noncomputable def IxR (X : Cx) (r : R2) : Prop :=
  ∀ (value slice : Expr) (pins : List (Addr × Obj)) (s : Shared) (σ : St) (H : Hp) (x y : V) (v u : Value) (Q : VK), Inv X pins σ H s → RelV x v → RelV y u → r x y H Q →
    subscripted slice false v u = operate [v, u] (getItem v u) → wpAny (model X.prog X.w) X.A (subscriptTail value slice v u) (EP X pins σ Q) X.xe s
noncomputable def MtR (X : Cx) (id : String) (r : V → List V → Hp → VK → Prop) : Prop :=
  ∀ (pins : List (Addr × Obj)) (s : Shared) (σ : St) (H : Hp) (x : V) (xs : List V) (v : Value) (us : List Value) (Q : VK), Inv X pins σ H s → RelV x v → Vals xs us → r x xs H Q →
    wpAny (model X.prog X.w) X.A (call (.builtin id) (v :: us)) (EP X pins σ Q) X.xe s
section
variable {X : Cx} {a b : Expr} {ta tb : TE} {pos : Pos}
theorem pe_ix {r : R2} (hr : IxR X r) (ha : PE X a ta) (hb : PE X b tb) (hs : PlainIx b) : PE X (.Subscript a b pos) (tOp r ta tb) := by
  intro pins s σ H Q I h
  exact Subscript_ (binT ha hb I h fun v u s2 x y H2 I2 rx ry q => hr a b pins s2 σ H2 x y v u Q I2 rx ry q (hs _ _))
noncomputable def rIxL (K : PySem.W.Frag) : R2 := fun x y H Q => ∃ p xs i v, x = .ref p ∧ y = .int i ∧ SqL K H p xs ∧ atI xs i = some v ∧ Q v H
noncomputable def rIxT (K : PySem.W.Frag) : R2 := fun x y H Q => ∃ p xs i v, x = .ref p ∧ y = .int i ∧ SqT K H p xs ∧ atI xs i = some v ∧ Q v H
theorem ix_list : IxR X (rIxL X.K) := by
  intro value slice pins s σ H x y v u Q I rx ry h hs
  obtain ⟨p, xs, i, z, rfl, rfl, hq, he, q⟩ := h
  cases rx
  obtain ⟨t, rfl⟩ := ry
  obtain ⟨its, r, pl, hz⟩ := I.list hq
  obtain ⟨j, h1, h2, h3, h4, h5⟩ := atI_get he
  obtain ⟨w, ew, rw'⟩ := r.get h2
  have hl := r.length
  have hn := line63
  have fin : EP X pins σ Q w s := ⟨z, H, I, rw', q⟩
  by_cases h0 : 0 ≤ i
  · have hj : i.toNat = j := by
      rw [seqIndex_of h0 h5] at h1
      exact Option.some.inj h1
    exact item_listR pl.isList h0 (by (first | lia | omega)) (by rw [hj]; simpa using ew) fin hs
  · have hj : (i + (its.toArray.size : Int)).toNat = j := by
      rw [seqIndex_neg (by (first | lia | omega)) h4] at h1
      rw [List.size_toArray, ← hl]
      exact Option.some.inj h1
    exact subscriptTail_builtinR (x := w) pl.isList.typeIs slot_list_getitem.lookup
      (wpAny_getItem_list_neg (Q := fun r s' => r = w ∧ EP X pins σ Q r s') pl.isList (by (first | lia | omega)) (by rw [List.size_toArray] <;> (first | lia | omega)) (by (first | lia | omega)) (by rw [hj]; simpa using ew) ⟨rfl, fin⟩) hs
theorem ix_tup : IxR X (rIxT X.K) := by
  intro value slice pins s σ H x y v u Q I rx ry h hs
  obtain ⟨p, xs, i, z, rfl, rfl, hq, he, q⟩ := h
  cases rx
  obtain ⟨t, rfl⟩ := ry
  obtain ⟨its, r, pl, hz⟩ := I.tuple hq
  obtain ⟨j, h1, h2, h3, h4, h5⟩ := atI_get he
  obtain ⟨w, ew, rw'⟩ := r.get h2
  have hl := r.length
  have hn := line63
  have fin : EP X pins σ Q w s := ⟨z, H, I, rw', q⟩
  exact subscriptTail_builtinR (x := w) pl.typeIs slot_tuple_getitem.lookup
    (getItem_tuple (j := j) (Q := fun r s' => r = w ∧ EP X pins σ Q r s') pl (by (first | lia | omega)) (by (first | lia | omega)) (by rw [List.size_toArray, ← hl]; exact h1) (by simpa using ew) ⟨rfl, fin⟩) hs
theorem mapSeq_set (its : List Value) (n j : Nat) (u : Value) : Obj.mapSeq (·.setIfInBounds j u) { cls := .type "list", data := .seq its.toArray n } = { cls := .type "list", data := .seq (its.set j u).toArray n } := by
  simp [Obj.mapSeq]
theorem Inv.lst {pins : List (Addr × Obj)} {σ : St} {H : Hp} {s : Shared} {p : Addr} {xs : List V} (I : Inv X pins σ H s) (h : H p = some (.lst xs)) :
    ∃ (its : List Value) (n : Nat), Vals xs its ∧ s.heap.get? p = some { cls := .type "list", data := .seq its.toArray n } ∧ xs.length ≤ sizeLine := by
  obtain ⟨z, its, n, r, e⟩ := I.hok p _ h
  exact ⟨its, n, r, e, z⟩
theorem Inv.lstUpd {pins : List (Addr × Obj)} {σ : St} {H : Hp} {s : Shared} {p : Addr} {xs ys : List V} {its its' : List Value} {n n' : Nat} {f : Obj → Obj} (I : Inv X pins σ H s) (h : H p = some (.lst xs))
    (ho : s.heap.get? p = some { cls := .type "list", data := .seq its.toArray n }) (hf : f { cls := .type "list", data := .seq its.toArray n } = { cls := .type "list", data := .seq its'.toArray n' }) (r : Vals ys its') (hz : ys.length ≤ sizeLine) (t : Nat) :
    Inv X pins σ (upd H p (.lst ys)) { s with heap := s.heap.update p f, toks := t } := by
  have e : (s.heap.update p f).get? p = some { cls := .type "list", data := .seq its'.toArray n' } := by
    rw [Heap.get?_update_self f ho (by rw [hf] <;> rfl), hf]
  refine I.write (x := p) (e := p) (by rw [h]; trivial) (.inl rfl) (fun b u hb q => (Heap.get?_update_other _ _ (Ne.symm hb)).trans q) ⟨_, e⟩ ?_
  exact ⟨hz, its', n', r, e⟩
noncomputable def rSetL : V → V → V → Hp → (Hp → Prop) → Prop := fun o i v H Q => ∃ p xs k j, o = .ref p ∧ i = .int k ∧ H p = some (.lst xs) ∧ ixN xs.length k = some j ∧ Q (upd H p (.lst (xs.set j v)))
theorem set_list : PSet X rSetL := by
  intro pins s σ H o i v ov iv u Q I ro ri rv h
  obtain ⟨p, xs, k, j, rfl, rfl, hp, hj, q⟩ := h
  cases ro
  obtain ⟨t, rfl⟩ := ri
  obtain ⟨its, n, r, ho, hz⟩ := I.lst hp
  obtain ⟨h1, h2, h3, h4⟩ := ixN_seq hj
  have hl := r.length
  have hn := line63
  have I' : Inv X pins σ (upd H p (.lst (xs.set j v))) { s with heap := s.heap.update p (Obj.mapSeq (·.setIfInBounds j u)) } :=
    I.lstUpd hp ho (mapSeq_set its n j u) (r.set rv j) (by rw [List.length_set]; exact hz) s.toks
  by_cases h0 : 0 ≤ k
  · have hk : k.toNat = j := by
      rw [seqIndex_of h0 h4] at h1
      exact Option.some.inj h1
    exact PySem.W.ki_setAt ho h0 (by (first | lia | omega)) (by rw [List.size_toArray, ← hl]; exact h4) (by rw [hk]; exact ⟨_, I', q⟩)
  · have hk : (k + (its.toArray.size : Int)).toNat = j := by
      rw [seqIndex_neg (by (first | lia | omega)) h3] at h1
      rw [List.size_toArray, ← hl]
      exact Option.some.inj h1
    exact PySem.W.ki_setBack ho (by (first | lia | omega)) (by rw [List.size_toArray, ← hl]; exact h3) (by (first | lia | omega)) (by rw [hk]; exact ⟨_, I', q⟩)
theorem slice_bounds (lo hi : Option Int) (n : Nat) : (sliceBounds lo hi none n).1 = ((HT.sIx n 0 lo : Nat) : Int) ∧ (sliceBounds lo hi none n).2.1 = ((HT.sIx n n hi : Nat) : Int) ∧ (sliceBounds lo hi none n).2.2 = 1 := by
  refine ⟨?_, ?_, rfl⟩
  · cases lo with
    | none => simp [sliceBounds, HT.sIx]
    | some i =>
      simp only [sliceBounds, HT.sIx, Option.getD_none, show (1 : Int) > 0 by decide, if_true]
      by_cases h : i < 0
      · simp only [h, if_true] <;> (first | lia | omega)
      · simp only [h, if_false] <;> (first | lia | omega)
  · cases hi with
    | none => simp [sliceBounds, HT.sIx]
    | some i =>
      simp only [sliceBounds, HT.sIx, Option.getD_none, show (1 : Int) > 0 by decide, if_true]
      by_cases h : i < 0
      · simp only [h, if_true] <;> (first | lia | omega)
      · simp only [h, if_false] <;> (first | lia | omega)
theorem slicePick_cut (its : List Value) (lo hi : Option Int) : slicePick its.toArray lo hi none = ((its.drop (HT.sIx its.length 0 lo)).take (HT.sIx its.length its.length hi - HT.sIx its.length 0 lo)).toArray := by
  obtain ⟨h1, h2, h3⟩ := slice_bounds lo hi its.toArray.size
  unfold slicePick
  rw [h1, h2, h3]
  simp only [sliceRange_one, pick_run, List.size_toArray] <;> rfl
noncomputable def rSlL (K : PySem.W.Frag) : V → Option Int → Option Int → Hp → VK → Prop := fun x lo hi H Q => ∃ a xs, x = .ref a ∧ SqL K H a xs ∧ ∀ p, H p = none → Q (.ref p) (upd H p (.lst (cutV xs lo hi)))
theorem sl_list : SlR X (rSlL X.K) := by
  intro pins s σ H x v vl vu lo hi sl Q I rx hs pl pu h
  obtain ⟨a, xs, rfl, hx, q⟩ := h
  cases rx
  obtain ⟨its, r, ht, hz⟩ := I.list hx
  have hlen := r.length
  refine ⟨"list", _, slot_list_getitem.lookup, ht.isList.typeIs, ?_⟩
  refine wpAny_getItem_list_slice ht.isList hs pl pu .none (by simp) ?_ (by rw [List.size_toArray] <;> (first | lia | omega))
  rw [slicePick_cut, ← hlen]
  refine ⟨.ref s.heap.objs.size, _, I.laid (t' := s.toks) (o := .lst (cutV xs lo hi)) (fun b ob q => Heap.get?_push_of_some _ q) (Nat.le_refl _) ?_, rfl, q _ (I.hok.fresh (Nat.le_refl _))⟩
  exact ⟨Nat.le_trans (cutV_length xs lo hi) hz, _, 0, (r.drop (HT.sIx xs.length 0 lo)).take (HT.sIx xs.length xs.length hi - HT.sIx xs.length 0 lo), Heap.get?_push_size _ rfl⟩
noncomputable def flatV : V → Bool
  | .non => true
  | .bl _ => true
  | .int _ => true
  | .str _ => true
  | _ => false
noncomputable def eqV : V → V → Bool
  | .non, .non => true
  | .bl a, .bl b => a == b
  | .bl a, .int b => (if a then 1 else 0) == b
  | .int a, .bl b => a == (if b then 1 else 0)
  | .int a, .int b => a == b
  | .str a, .str b => a == b
  | _, _ => false
theorem eqAt_V {A : Around} {s : Shared} {y x : V} {u v : Value} (ry : RelV y u) (rx : RelV x v) (fy : flatV y = true) (fx : flatV x = true) : SeqAt.EqAt A s u v (eqV y x) := by
  cases y with
  | non =>
    cases ry
    cases x with
    | non => cases rx; exact SeqAt.EqAt.same _
    | bl b => cases rx; exact SeqAt.EqAt.none_bool b
    | int b => obtain ⟨t, rfl⟩ := rx; exact SeqAt.EqAt.none_int b t
    | str b => obtain ⟨t, rfl⟩ := rx; exact SeqAt.EqAt.none_str b t
    | _ => exact absurd (show false = true from fx) Bool.false_ne_true
  | bl a =>
    cases ry
    cases x with
    | non => cases rx; exact SeqAt.EqAt.bool_none a
    | bl b => cases rx; exact SeqAt.EqAt.bool_bool a b
    | int b => obtain ⟨t, rfl⟩ := rx; exact SeqAt.EqAt.bool_int a b t
    | str b => obtain ⟨t, rfl⟩ := rx; exact SeqAt.EqAt.bool_str a b t
    | _ => exact absurd (show false = true from fx) Bool.false_ne_true
  | int a =>
    obtain ⟨t', rfl⟩ := ry
    cases x with
    | non => cases rx; exact SeqAt.EqAt.int_none a t'
    | bl b => cases rx; exact SeqAt.EqAt.int_bool a t' b
    | int b => obtain ⟨t, rfl⟩ := rx; exact SeqAt.EqAt.int_int a t' b t
    | str b => obtain ⟨t, rfl⟩ := rx; exact SeqAt.EqAt.int_str a t' b t
    | _ => exact absurd (show false = true from fx) Bool.false_ne_true
  | str a =>
    obtain ⟨t', rfl⟩ := ry
    cases x with
    | non => cases rx; exact SeqAt.EqAt.str_none a t'
    | bl b => cases rx; exact SeqAt.EqAt.str_bool a t' b
    | int b => obtain ⟨t, rfl⟩ := rx; exact SeqAt.EqAt.str_int a t' b t
    | str b => obtain ⟨t, rfl⟩ := rx; exact SeqAt.EqAt.str_str a t' b t
    | _ => exact absurd (show false = true from fx) Bool.false_ne_true
  | _ => exact absurd (show false = true from fy) Bool.false_ne_true
noncomputable def eqU (x : V) (u : Value) : Bool := match u with
  | .none => eqV .non x
  | .bool b => eqV (.bl b) x
  | .int i _ => eqV (.int i) x
  | .str z _ => eqV (.str z) x
  | _ => false
theorem eqU_of {x y : V} {u : Value} (r : RelV y u) (f : flatV y = true) : eqU x u = eqV y x := by
  cases y with
  | non => cases r; rfl
  | bl b => cases r; rfl
  | int i => obtain ⟨t, rfl⟩ := r; rfl
  | str z => obtain ⟨t, rfl⟩ := r; rfl
  | _ => exact absurd (show false = true from f) Bool.false_ne_true
theorem any_eqU {x : V} : ∀ {xs : List V} {us : List Value}, Vals xs us → xs.all flatV = true → us.any (eqU x) = xs.any fun y => eqV y x
  | _, _, .nil, _ => rfl
  | y :: xs, u :: us, .cons r t, f => by
    rw [List.all_cons, Bool.and_eq_true] at f
    rw [List.any_cons, List.any_cons, eqU_of r f.1, any_eqU t f.2]
theorem mem_eqAt {A : Around} {s : Shared} {x : V} {v : Value} (rx : RelV x v) (fx : flatV x = true) : ∀ {xs : List V} {us : List Value}, Vals xs us → xs.all flatV = true → ∀ u ∈ us, SeqAt.EqAt A s u v (eqU x u)
  | _, _, .nil, _ => fun u hu => by cases hu
  | y :: xs, u :: us, .cons r t, f => fun u' hu => by
    rw [List.all_cons, Bool.and_eq_true] at f
    rcases List.mem_cons.mp hu with rfl | hu
    · rw [eqU_of r f.1]; exact eqAt_V r rx f.1 fx
    · exact mem_eqAt rx fx t f.2 u' hu
noncomputable def inV (x : V) (xs : List V) : Bool := xs.any fun y => eqV y x
noncomputable def rIn (K : PySem.W.Frag) (neg : Bool) : R2 := fun x y H Q => ∃ p xs, y = .ref p ∧ (SqL K H p xs ∨ SqT K H p xs) ∧ flatV x = true ∧ xs.all flatV = true ∧ Q (.bl (if neg then !inV x xs else inV x xs)) H
theorem op_in_seq : OpR X (compareOp .In) (rIn X.K false) := by
  intro pins s σ H x y v u Q I rx ry h
  obtain ⟨p, xs, rfl, hq, fx, fs, q⟩ := h
  cases ry
  rcases hq with hq | hq
  · obtain ⟨its, r, pl, hz⟩ := I.list hq
    refine SeqAt.in_listAt (eqU x) pl.isList (fun w hw => mem_eqAt rx fx r fs w (by simpa using hw)) ⟨.bl _, H, I, rfl, ?_⟩
    rw [show its.toArray.any (eqU x) = its.any (eqU x) by simp, any_eqU r fs]
    exact q
  · obtain ⟨its, r, pl, hz⟩ := I.tuple hq
    refine SeqAt.in_tupleAt (eqU x) pl (fun w hw => mem_eqAt rx fx r fs w (by simpa using hw)) ⟨.bl _, H, I, rfl, ?_⟩
    rw [show its.toArray.any (eqU x) = its.any (eqU x) by simp, any_eqU r fs]
    exact q
theorem op_notIn_seq : OpR X (compareOp .NotIn) (rIn X.K true) := by
  intro pins s σ H x y v u Q I rx ry h
  obtain ⟨p, xs, rfl, hq, fx, fs, q⟩ := h
  cases ry
  rcases hq with hq | hq
  · obtain ⟨its, r, pl, hz⟩ := I.list hq
    refine SeqAt.notIn_listAt (eqU x) pl.isList (fun w hw => mem_eqAt rx fx r fs w (by simpa using hw)) ⟨.bl _, H, I, rfl, ?_⟩
    rw [show its.toArray.any (eqU x) = its.any (eqU x) by simp, any_eqU r fs]
    exact q
  · obtain ⟨its, r, pl, hz⟩ := I.tuple hq
    refine SeqAt.notIn_tupleAt (eqU x) pl (fun w hw => mem_eqAt rx fx r fs w (by simpa using hw)) ⟨.bl _, H, I, rfl, ?_⟩
    rw [show its.toArray.any (eqU x) = its.any (eqU x) by simp, any_eqU r fs]
    exact q
theorem call_len_seq : CallR X (.builtin "len") (fun xs H Q => ∃ p ys, xs = [.ref p] ∧ (SqL X.K H p ys ∨ SqT X.K H p ys) ∧ Q (.int ys.length) H) := by
  intro pins s σ H xs us Q I r h
  obtain ⟨p, ys, rfl, hq, q⟩ := h
  obtain ⟨u, rfl, rx⟩ := vals1 r
  cases rx
  have hn := line63
  rcases hq with hq | hq
  · obtain ⟨its, r', pl, hz⟩ := I.list hq
    have hlen := r'.length
    exact Calls.call_len_list pl.isList (by simp only [List.size_toArray] <;> (first | lia | omega)) ⟨.int ys.length, H, I.tok _, ⟨s.toks + 1, by rw [List.size_toArray, hlen]⟩, q⟩
  · obtain ⟨its, r', pl, hz⟩ := I.tuple hq
    have hlen := r'.length
    exact len_tuple pl (by simp only [List.size_toArray] <;> (first | lia | omega)) ⟨.int ys.length, H, I.tok _, ⟨s.toks + 1, by rw [List.size_toArray, hlen]⟩, q⟩
theorem call_list_of : CallR X (.type "list") (fun xs H Q => ∃ p ys, xs = [.ref p] ∧ (SqL X.K H p ys ∨ SqT X.K H p ys) ∧ ∀ l, H l = none → Q (.ref l) (upd H l (.lst ys))) := by
  intro pins s σ H xs us Q I r h
  obtain ⟨p, ys, rfl, hq, q⟩ := h
  obtain ⟨u, rfl, rx⟩ := vals1 r
  cases rx
  have fin : ∀ (its : List Value), Vals ys its → ys.length ≤ sizeLine → ∀ (h' : Heap) (c' : Nat), (∀ b o', s.heap.get? b = some o' → h'.get? b = some o') →
      h'.get? s.heap.objs.size = some { cls := .type "list", dict := none, data := .seq its.toArray c', slots := #[] } → EP X pins σ Q (.ref s.heap.objs.size) { s with heap := h' } := fun its r' hz h' c' kp e =>
    ⟨.ref s.heap.objs.size, _, I.laid (t' := s.toks) kp (Nat.le_refl _) (show ObjOk X.prog X.w _ h' _ (.lst ys) from ⟨hz, its, c', r', e⟩), rfl, q _ (I.hok.fresh (Nat.le_refl _))⟩
  rcases hq with hq | hq
  · obtain ⟨its, r', pl, hz⟩ := I.list hq
    have hlen := r'.length
    obtain ⟨o, ho, hc, n, hd⟩ := pl.isList
    exact call_list_seq p (.inl rfl) ho hc hd (fun h' c' kp e => fin its r' hz h' c' kp e) (by simp only [List.size_toArray] <;> (first | lia | omega))
  · obtain ⟨its, r', pl, hz⟩ := I.tuple hq
    have hlen := r'.length
    obtain ⟨o, ho, hc, n, hd⟩ := pl
    exact call_list_seq p (.inr rfl) ho hc hd (fun h' c' kp e => fin its r' hz h' c' kp e) (by simp only [List.size_toArray] <;> (first | lia | omega))
noncomputable def tyV (K : PySem.W.Frag) (T : String) (x : V) (H : Hp) : Prop := match x with
  | .str _ => T = "str"
  | .int _ => T = "int"
  | .ref p => (T = "list" ∧ ∃ xs, SqL K H p xs) ∨ (T = "tuple" ∧ ∃ o, K.lookup p = some o ∧ o.cls = .type "tuple" ∧ o.dict = none) ∨
      (T = "dict" ∧ ((∃ kvs, H p = some (.dK kvs)) ∨ ∃ kvs, H p = some (.dT kvs))) ∨ (T = "set" ∧ ∃ S n, H p = some (.set S n))
  | _ => False
theorem tyV_is {pins : List (Addr × Obj)} {σ : St} {H : Hp} {s : Shared} {T : String} {x : V} {v : Value} (I : Inv X pins σ H s) (r : RelV x v) (ty : tyV X.K T x H) :
    s.TypeIs v T ∧ ∀ a, v = .ref a → ∃ ob, s.heap.get? a = some ob ∧ ob.dict = none := by
  cases x with
  | str z =>
    obtain ⟨t, rfl⟩ := r
    cases (show T = "str" from ty)
    exact ⟨typeIs_str s z t, fun _ e => nomatch e⟩
  | int i =>
    obtain ⟨t, rfl⟩ := r
    cases (show T = "int" from ty)
    exact ⟨typeIs_int s i t, fun _ e => nomatch e⟩
  | ref p =>
    cases r
    rcases ty with ⟨rfl, xs, hq⟩ | ⟨rfl, o, hk, hc, hd⟩ | ⟨rfl, hk⟩ | ⟨rfl, S, n, hk⟩
    · obtain ⟨its, _, pl, _⟩ := I.list hq
      refine ⟨pl.isList.typeIs, fun a e => ?_⟩
      cases e
      obtain ⟨o, n, e, c, hd, _⟩ := pl
      exact ⟨o, e, hd⟩
    · refine ⟨⟨o, I.kIn p o hk, hc⟩, fun a e => ?_⟩
      cases e
      exact ⟨o, I.kIn _ o hk, hd⟩
    · have z : ∃ o, s.heap.get? p = some o ∧ o.ExactDict := by
        rcases hk with ⟨kvs, hk⟩ | ⟨kvs, hk⟩
        · obtain ⟨_, _, _, _, o, _, _, e, ex, _⟩ := I.hok p _ hk
          exact ⟨o, e, ex⟩
        · obtain ⟨_, _, _, _, o, _, _, e, ex, _⟩ := I.hok p _ hk
          exact ⟨o, e, ex⟩
      obtain ⟨o, e, ex⟩ := z
      refine ⟨⟨o, e, ex.1⟩, fun a e2 => ?_⟩
      cases e2
      exact ⟨o, e, ex.2.1⟩
    · obtain ⟨o, _, _, _, e, ex, _⟩ := I.hok p _ hk
      refine ⟨⟨o, e, ex.1⟩, fun a e2 => ?_⟩
      cases e2
      exact ⟨o, e, ex.2.1⟩
  | _ => exact False.elim ty
noncomputable def tBM (K : PySem.W.Frag) (T : String) (r : V → List V → Hp → VK → Prop) (to : TE) (t : TA) : TE := fun σ H Q => to σ H fun x H1 => tyV K T x H1 ∧ t σ H1 fun xs H2 => r x xs H2 Q
variable {o e : Expr} {es : List Expr} {to : TE} {t : TA} {name : Str} {apos cpos : Pos} {T id : String} {r : V → List V → Hp → VK → Prop}
theorem pe_bm (pa : PlainAttrs T) (slot : Slot T name id) (hty : typeOf (.builtin id) = pure (.type "method_descriptor")) (hm : MtR X id r) (ho : PE X o to) (ha : PA X (e :: es) t)
    (hbase : attributeBase o name X.env (eval o X.env) = eval o X.env := by rfl)
    (hfew : ((backTo cpos (starEach (e :: es) X.env)).all (fun x => !x.1) && (backToKw cpos (keywordEach [] X.env)).all (fun x => x.1.isSome)
      && decide ((e :: es).length + ([] : List Keyword).length + (if ([] : List Keyword).isEmpty then 0 else 1) < 30)) = true := by rfl)
    (hline : (apos.endLine == cpos.line) = true := by rfl) (hs : starEach (e :: es) X.env = (false, eval e X.env) :: starEach es X.env := by rfl) (hplain : (backTo cpos (starEach es X.env)).any (·.1) = false := by rfl) :
    PE X (.Call (.Attribute o name apos) (e :: es) [] cpos) (tBM X.K T r to t) := by
  intro pins s σ H Q I h
  refine wpAny_Call_method_late hbase hfew hline rfl (thn (ho pins s σ H _ I h) fun v s1 hh => ?_)
  obtain ⟨x, H1, I1, r1, ty, q1⟩ := hh
  obtain ⟨h1, h2⟩ := tyV_is I1 r1 ty
  refine ⟨T, id, pa, slot, hty, h1, h2, ?_⟩
  have hA := ha cpos pins s1 σ H1 _ I1 q1
  rw [hs] at hA ⊢
  refine Calls.callWith_builtin (by show (false || (backTo cpos (starEach es X.env)).any (·.1)) = false; rw [hplain] <;> rfl) (Calls.evalArgs_plain ?_)
  exact thn hA fun us s2 ⟨vs, H2, I2, r2, q2⟩ => hm pins s2 σ H2 x vs v us Q I2 r1 r2 q2
end
end L2
namespace L2
open PySem PySem.Spec PyProof.Rows
noncomputable def MtM (X : Cx) (id : String) (r : V → List V → Hp → VK → Prop) : Prop :=
  ∀ (pins : List (Addr × Obj)) (s : Shared) (σ : St) (H : Hp) (x : V) (xs : List V) (v : Value) (us : List Value) (Q : VK), Inv X pins σ H s → RelV x v → Vals xs us → r x xs H Q →
    wpAny (model X.prog X.w) X.A (call (.builtin id) (v :: us)) (EP X pins σ Q) X.xe s
theorem Vals.one {x : V} {us : List Value} (h : Vals [x] us) : ∃ u, us = [u] ∧ RelV x u := by
  cases h with
  | cons r t => cases t with
    | nil => exact ⟨_, rfl, r⟩
theorem Vals.two {x y : V} {us : List Value} (h : Vals [x, y] us) : ∃ u v, us = [u, v] ∧ RelV x u ∧ RelV y v := by
  cases h with
  | cons r t =>
    obtain ⟨v, rfl, q⟩ := Vals.one t
    exact ⟨_, v, rfl, r, q⟩
theorem Vals.zero : ∀ {us : List Value}, Vals [] us → us = []
  | _, .nil => rfl
theorem Vals.reverse {xs : List V} {us : List Value} (h : Vals xs us) : Vals xs.reverse us.reverse := by
  induction h with
  | nil => exact .nil
  | cons r t ih => rw [List.reverse_cons, List.reverse_cons]; exact Vals.append ih (.cons r .nil)
section
variable {X : Cx} {pins : List (Addr × Obj)} {σ : St} {H : Hp} {s : Shared} {l b : Addr} {xs ys zs : List V}
theorem Inv.lset {its its' : List Value} {n : Nat} {f : Array Value → Array Value} {t' : Nat} (I : Inv X pins σ H s) (hH : H l = some (.lst xs))
    (e : s.heap.get? l = some { cls := .type "list", data := .seq its.toArray n }) (hf : f its.toArray = its'.toArray) (hv : Vals ys its') (hz : ys.length ≤ sizeLine) :
    Inv X pins σ (upd H l (.lst ys)) { s with heap := s.heap.update l (Obj.mapSeq f), toks := t' } := by
  have q := PySem.IsL.update e f
  rw [hf] at q
  refine I.write (x := l) (e := l) (by rw [hH]; exact trivial) (.inl rfl) (fun b' u hb hu => (Heap.get?_update_other s.heap (Obj.mapSeq f) (Ne.symm hb)).trans hu) ⟨_, q⟩ ?_
  exact ⟨hz, its', _, hv, q⟩
theorem Inv.lnew {its : List Value} {t' : Nat} (I : Inv X pins σ H s) (hv : Vals ys its) (hz : ys.length ≤ sizeLine) :
    Inv X pins σ (upd H s.heap.objs.size (.lst ys)) { s with heap := s.heap.push { cls := .type "list", data := .seq its.toArray }, toks := t' } :=
  I.laid (fun _ _ q => Heap.get?_push_of_some _ q) (Nat.le_refl _) ⟨hz, its, 0, hv, Heap.get?_push_size _ rfl⟩
theorem Inv.fresh (I : Inv X pins σ H s) : H s.heap.objs.size = none := I.hok.fresh (Nat.le_refl _)
theorem Inv.lstM (I : Inv X pins σ H s) (hH : H l = some (.lst xs)) : xs.length ≤ sizeLine ∧ ∃ (its : List Value) (n : Nat), Vals xs its ∧ xs.length = its.length ∧ s.heap.get? l = some { cls := .type "list", data := .seq its.toArray n } := by
  obtain ⟨z, its, n, r, e⟩ := I.hok l _ hH
  exact ⟨z, its, n, r, r.length, e⟩
theorem notLongL {n : Nat} (h : n ≤ sizeLine) : Builtin.List.listTooLong n = false := by
  unfold Builtin.List.listTooLong
  exact decide_eq_false (by (first | lia | omega))
end
section
variable {X : Cx}
noncomputable def rAppend : V → List V → Hp → VK → Prop := fun x vs H Q => ∃ l xs y, x = .ref l ∧ vs = [y] ∧ H l = some (.lst xs) ∧ xs.length < sizeLine ∧ Q .non (upd H l (.lst (xs ++ [y])))
theorem mt_append : MtM X "list.append" rAppend := by
  intro pins s σ H x vs v us Q I rx rv h
  obtain ⟨l, xs, y, rfl, rfl, hH, hz, q⟩ := h
  cases rx
  obtain ⟨u, rfl, ru⟩ := rv.one
  obtain ⟨z, its, n, r, hl, e⟩ := I.lstM hH
  refine call_meets F.slot_list_append ⟨_, e, rfl⟩ F.entry_list_append (F.args_list_append_2 _ _) (PySem.list_append l its.toArray n u (by rw [List.size_toArray]; (first | lia | omega))) ⟨e, ?_⟩
  refine ⟨.non, _, I.lset (its' := its ++ [u]) hH e (by simp) (r.append (.cons ru .nil)) ?_, rfl, q⟩
  rw [List.length_append, List.length_singleton]
  (first | lia | omega)
noncomputable def rExtend : V → List V → Hp → VK → Prop := fun x vs H Q => ∃ l b xs zs, x = .ref l ∧ vs = [.ref b] ∧ H l = some (.lst xs) ∧ H b = some (.lst zs) ∧ xs.length + zs.length ≤ sizeLine ∧ Q .non (upd H l (.lst (xs ++ zs)))
theorem mt_extend : MtM X "list.extend" rExtend := by
  intro pins s σ H x vs v us Q I rx rv h
  obtain ⟨l, b, xs, zs, rfl, rfl, hH, hB, hz, q⟩ := h
  cases rx
  obtain ⟨u, rfl, ru⟩ := rv.one
  cases ru
  obtain ⟨z, its, n, r, hl, e⟩ := I.lstM hH
  obtain ⟨z2, its2, n2, r2, hl2, e2⟩ := I.lstM hB
  have hsz : its.toArray.size + its2.toArray.size ≤ sizeLine := by rw [List.size_toArray, List.size_toArray]; (first | lia | omega)
  have hlong : ¬ (!its.toArray.isEmpty && Builtin.List.listTooLong (its.toArray.size + its2.toArray.size)) = true := by
    rw [notLongL hsz, Bool.and_false]
    exact Bool.false_ne_true
  refine call_meets F.slot_list_extend ⟨_, e, rfl⟩ F.entry_list_extend (F.args_list_extend_2 _ _)
    (AutoSeq1.list_extend_list_list_0 l its.toArray n b its2.toArray n2 hlong (by rw [List.size_toArray]; (first | lia | omega)) (by (first | lia | omega))) ⟨e, e2, ?_⟩
  refine ⟨.non, _, I.lset (its' := its ++ its2) hH e (by simp) (r.append r2) ?_, rfl, q⟩
  rw [List.length_append]
  (first | lia | omega)
noncomputable def rCat : R2 := fun x y H Q => ∃ l b xs zs, x = .ref l ∧ y = .ref b ∧ H l = some (.lst xs) ∧ H b = some (.lst zs) ∧ xs.length + zs.length ≤ sizeLine ∧ ∀ p, H p = none → Q (.ref p) (upd H p (.lst (xs ++ zs)))
theorem op_cat : OpR X (binaryOp .Add) rCat := by
  intro pins s σ H x y v u Q I rx ry h
  obtain ⟨l, b, xs, zs, rfl, rfl, hH, hB, hz, q⟩ := h
  cases rx
  cases ry
  obtain ⟨z, its, n, r, hl, e⟩ := I.lstM hH
  obtain ⟨z2, its2, n2, r2, hl2, e2⟩ := I.lstM hB
  refine PySem.P.add_list e e2 ?_ (by rw [List.size_toArray, List.size_toArray]; (first | lia | omega))
  have ea : its.toArray ++ its2.toArray = (its ++ its2).toArray := by simp
  rw [ea]
  exact ⟨.ref _, _, I.lnew (t' := s.toks) (r.append r2) (by rw [List.length_append]; (first | lia | omega)), rfl, q _ I.fresh⟩
end
section
variable {prog : Program} {w : World} {A : Around} {E : Value → Shared → Prop} {s : Shared}
end
section
variable {X : Cx}
end
end L2
namespace Att
open PySem PySem.W PySem.Calls PyProof.Rows
theorem ints_of_wellAll {P : Params} {h : Heap} : ∀ (ns : List Int) (vs : List Value), WellAll P h vs (ns.map WData.int) → IntsAre vs ns := by
  intro ns
  induction ns with
  | nil =>
    intro vs w
    rw [List.map_nil] at w
    cases w
    exact .nil
  | cons n ns ih =>
    intro vs w
    rw [List.map_cons] at w
    cases w with
    | cons a b =>
      cases a
      exact .cons _ _ (ih _ b)
theorem script_of {l : OpenLaw} {n : Nat} (hn : l.most = some n) {P : Params} {h : Heap} {args : List WData} {vals : List Value}
    (hpre : l.row.toRowW.claim.pre args = true) (hwl : WellAll P h vals args) :
    ∃ a vs ns, vals = [Value.ref a] ∧ args = [WData.list (ns.map WData.int)] ∧ h.get? a = some { cls := .type "list", data := .seq vs.toArray } ∧ IntsAre vs ns ∧ ns.length ≤ n := by
  have hsh : WShape.hasAll [] args [.list .int] = true := (pre_splitW hpre).1
  have hc : l.pre.holds [] { args := args } = true := (pre_splitW hpre).2
  obtain ⟨d, r, rfl, h1, h2⟩ := hasAllW_cons hsh
  obtain rfl := hasAllW_nil h2
  obtain ⟨xs, rfl, h3⟩ := hasW_list h1
  obtain ⟨ns, rfl⟩ := items_int h3
  have hlen : ns.length ≤ n := by
    unfold OpenLaw.pre at hc
    have h4 : (WTm.not (.lt (.lit (.int (n : Int))) (.len (.arg 0)))).holds [] { args := [.list (ns.map .int)] } = true := by
      have h4 := (holds_andW hc).1
      rw [hn] at h4
      exact h4
    have h5 := condW_of h4 (w_not (w_lt w_lit (w_len_list (w_arg rfl))))
    rw [List.length_map] at h5
    refine Nat.le_of_not_lt fun q => ?_
    have q' : (n : Int) < ((ns.length : Nat) : Int) := by (first | lia | omega)
    first
      | (rw [decide_eq_true q'] at h5; exact absurd h5 (by decide))
      | (simp at h5; (first | lia | omega))
  cases hwl with
  | cons w1 w2 =>
    cases w2
    cases w1 with
    | list ho hall => exact ⟨_, _, ns, rfl, rfl, ho, ints_of_wellAll ns _ hall, hlen⟩
theorem post_true (l : OpenLaw) (args : List WData) : l.row.toRowW.claim.post args (.bool true) args = true :=
  postW_of (r := l.row.toRowW) (X := (true == true))
    (show WShape.has [] (.bool true) .bool = true by first | rfl | decide | simp [WShape.has, WShape.arms, WShape.armsAll])
    (show (WTm.eq .res (.lit (.bool true))).value [] { args := args, res := some (.bool true), after := args } = some (.bool (true == true)) from w_eq_bool (w_res rfl) w_lit) rfl
theorem attach_call {l : OpenLaw} {n : Nat} {q : Program} {loose : List Str} {XP : (Str → Option Value) → Heap → Prop} {YP : World → Heap → Prop} {d : DefRec}
    (hn : l.most = some n) (hdf : d.params.defaults = [])
    (call : ∀ (w : World) (s₀ s₁ : Shared) (mg mb : Str → Option Value) (fa : Addr) (o : Obj) (pm cd doc : Value) (a : Addr) (vs : List Value) (ns : List Int),
      Ground q loose [] XP w s₀ mg mb s₁.heap → YP w s₁.heap →
      s₁.heap.get? fa = some o → o.data = .func (docDef d.name d.params d.body d.scope pm cd doc) → s₁.heap.CodeRec cd d.name → mg d.name = some (.ref fa) →
      s₁.heap.get? a = some { cls := .type "list", data := .seq vs.toArray } → IntsAre vs ns → ns.length ≤ n → s₁.gens = #[] →
      codeAny (model l.prog w) callerA (.call (.ref fa) ⟨[.ref a], []⟩) (fun r s' => r = .ok (.ret (.bool true)) ∧ OldK s₁.heap s'.heap ∧ s'.os = s₁.os ∧ AllBare s'.gens) s₁) :
    WalkO q loose XP YP l.row.toRowW d [] (fun f vs => PySem.call f vs) := by
  intro w s₀ s₁ mg mb G Y fa o pm cd doc dV kV ho hd hcd hD hmg hg args vals as hpre hlay hrd hwl hlo
  obtain rfl : dV = .none := Dflts.none hD hdf
  obtain rfl : kV = .none := Dflts.noKw hD
  obtain ⟨a, vs, ns, rfl, rfl, hobj, hints, hlen⟩ := script_of hn hpre hwl
  refine enter_call (codeAny_mono (call w s₀ s₁ mg mb fa o pm cd doc a vs ns G Y ho (fd_plain hd) hcd hmg hobj hints hlen hg) fun r s' hq => ?_)
  obtain ⟨rfl, h2, h3, h4⟩ := hq
  exact ⟨.inl ⟨.bool true, .bool true, [], rfl, fun _ => rfl, .bool true, post_true l _, fun _ => ⟨List.Pairwise.nil, fun _ hm => (nomatch hm)⟩⟩, h2, h3, h4⟩
section
variable {prog : Program} {w : World} {A : Around} {E : Value → Shared → Prop} {s : Shared} {K : Frag}
end
end Att
namespace L2
open PySem PySem.Spec PyProof.Rows
theorem vals_ints : ∀ {vs : List Value} {ns : List Int}, IntsAre vs ns → Vals (ns.map V.int) vs
  | _, _, .nil => .nil
  | _, _, .cons n t h => .cons ⟨t, rfl⟩ (vals_ints h)
end L2
namespace L2
open PySem PySem.Spec PyProof.Rows
end L2
namespace L2
open PySem PySem.Spec PyProof.Rows
noncomputable def defArgs (s : Stmt) : Arguments := match s with
  | .FunctionDef _ a _ _ _ _ _ _ _ _ => a
  | _ => { posonlyargs := [], args := [], vararg := none, kwonlyargs := [], kw_defaults := [], kwarg := none, defaults := [] }
noncomputable def defBody (s : Stmt) : List Stmt := match s with
  | .FunctionDef _ _ b _ _ _ _ _ _ _ => b
  | _ => []
noncomputable def defScope (s : Stmt) : Scope := match s with
  | .FunctionDef _ _ _ _ _ _ sc _ _ _ => sc
  | _ => { kind := .function, names := [], isGenerator := false, isCoroutine := false }
noncomputable abbrev CX0 : CXT := fun _ _ _ _ _ _ => False
noncomputable abbrev E0 : XK := fun _ _ _ => False
theorem pass0 {X : Cx} : Passes CX0 X E0 := fun _ _ _ _ _ _ _ h => h.elim
structure Fun (K : PySem.W.Frag) (x qual : Str) (st : Stmt) (f : Addr) (fd : FuncData) : Prop where
  ex : ∃ (oc : Value) (od : Option Addr) (kV doc pm : Value) (an : Option Addr) (cdv ct : Value) (osl : Array (Option Value)),
    fd = PySem.W.fnOf x qual (defArgs st) (defBody st) (defScope st) .none kV doc pm an cdv ct ∧ K.lookup f = some ⟨oc, od, .func fd, osl⟩ ∧ PySem.W.codeIn K cdv qual = true
  kp : PySem.W.keepIn K (.ref f) = true
section
variable {P : Program} {w : World} {K : PySem.W.Frag} {mg : Str → Option Value} {base : Heap}
theorem Fun.ok {x qual : Str} {st : Stmt} {f : Addr} {fd : FuncData} {N ps : List Str} {k : Nat} {sp : Sp} (F : Fun K x qual st f fd) (S : FnScope N ps (defScope st)) (len : ∀ vs H Q E, sp vs H Q E → vs.length = ps.length)
    (hbody : ∀ (cdv : Value) (A : Around) (outer : List Env) (s : Shared) (H : Hp) (vs : List V) (Q : VK) (E : XK), Room k (A.deeper (envOfC qual (defScope st) s.heap.objs.size f cdv)) → sp vs H Q E →
      ∃ t, PSs (cxOf CX0 P w K mg base N qual (defScope st) f cdv A outer s H E).nox (defBody st) t ∧ t { nx := fun _ H' => Q .non H', rt := Q } (start N vs) H) : FnOk P w K mg base CX0 (k + 1) f fd ps sp := by
  obtain ⟨oc, od, kV, doc, pm, an, cdv, ct, osl, rfl, lk, hcd⟩ := F.ex
  refine fn_of lk hcd S len fun A outer s H vs Q E hr hsp => ?_
  obtain ⟨t, h, q⟩ := hbody cdv A outer s H vs Q E hr hsp
  exact ⟨t, h.nox, q⟩
theorem Fun.binds {x qual : Str} {st : Stmt} {f : Addr} {fd : FuncData} {ps : List Str} (F : Fun K x qual st f fd)
    (h : ∀ (kV doc pm : Value) (an : Option Addr) (cdv ct : Value) (us : List Value), us.length = ps.length → bindArgs (PySem.W.fnOf x qual (defArgs st) (defBody st) (defScope st) .none kV doc pm an cdv ct) ⟨us, []⟩ = pure (ps.zip us)) : Binds K fd ps [] := by
  obtain ⟨oc, od, kV, doc, pm, an, cdv, ct, osl, rfl, lk, hcd⟩ := F.ex
  exact .all (h kV doc pm an cdv ct)
theorem fun_mk {x qual : Str} {st : Stmt} {f : Addr} {oc : Value} {od an : Option Addr} {osl : Array (Option Value)} {kV doc pm cdv ct : Value} (l : K.lookup f = some ⟨oc, od, .func (PySem.W.fnOf x qual (defArgs st) (defBody st) (defScope st) .none kV doc pm an cdv ct), osl⟩)
    (c : PySem.W.codeIn K cdv qual = true) (k : PySem.W.keepIn K (.ref f) = true) : Fun K x qual st f (PySem.W.fnOf x qual (defArgs st) (defBody st) (defScope st) .none kV doc pm an cdv ct) := ⟨⟨oc, od, kV, doc, pm, an, cdv, ct, osl, rfl, l, c⟩, k⟩
end
theorem hu_of {A : Around} {k : Nat} (hr : Room k A) : A.units + 1 < cLine := Nat.lt_of_le_of_lt (Nat.add_le_add_left (by decide : 1 ≤ 64) _) hr.units
section
variable {X : Cx}
end
theorem iteF {A B : Prop} (h : B) : if false = true then A else B := by
  rw [if_neg Bool.false_ne_true]
  exact h
theorem iteT {A B : Prop} (h : A) : if true = true then A else B := by
  rw [if_pos rfl]
  exact h
theorem ite2 {c A B : Prop} [Decidable c] (h1 : c → A) (h2 : ¬ c → B) : if c then A else B := by
  by_cases h : c
  · rw [if_pos h]
    exact h1 h
  · rw [if_neg h]
    exact h2 h
noncomputable def Same (H H' : Hp) : Prop := ∀ b o, H b = some o → H' b = some o
theorem Same.refl (H : Hp) : Same H H := fun _ _ h => h
theorem Same.trans {H H1 H2 : Hp} (a : Same H H1) (b : Same H1 H2) : Same H H2 := fun c o h => b c o (a c o h)
theorem Same.free {H H' : Hp} (e : Same H H') {l : Addr} (h : H' l = Option.none) : H l = Option.none := by
  cases q : H l with
  | none => rfl
  | some o =>
    rw [e l o q] at h
    cases h
theorem Same.seq {K : PySem.W.Frag} {H H' : Hp} {a : Addr} {xs : List V} (e : Same H H') (h : SqL K H a xs) : SqL K H' a xs := by
  rcases h with (h | ⟨o, h⟩) | h
  · exact .inl (.inl (e _ _ h))
  · exact .inl (.inr ⟨o, e _ _ h⟩)
  · exact .inr h
end L2
namespace L2
open PySem PySem.Spec PyProof.Rows
section
variable {X : Cx}
end
section
variable {κ : Type} [DecidableEq κ]
end
end L2
namespace L3
open PySem PySem.Spec PyProof.Rows L2
noncomputable abbrev St := L2.St
theorem same_upd {B H : Hp} {l : Addr} {o : HO} (h : Same B H) (n : B l = none) : Same B (upd H l o) := fun b u e => by
  rw [upd_ne (ne_of_none e n)]; exact h b u e
theorem same_new {H : Hp} {l : Addr} {o : HO} (n : H l = none) : Same H (upd H l o) := same_upd (Same.refl H) n
noncomputable def New (H : Hp) (o : HO) (Q : VK) : Prop := ∀ p H', H p = none → Same H H' → H' p = some o → (∀ b, b ≠ p → H' b = H b) → Q (.ref p) H'
theorem New.at {H : Hp} {o : HO} {Q : VK} (h : New H o Q) {p : Addr} (n : H p = none) : Q (.ref p) (upd H p o) := h p _ n (same_new n) upd_same fun b hb => upd_ne hb
noncomputable def clOf (env : Env) : List (Str × NameKind) → List (Str × Addr) → List (Str × Addr)
  | [], cs => cs
  | (n, k) :: r, cs => clOf env r (if (k == NameKind.free) = true then (n, ((env.cells.lookup n).getD 0)) :: cs else cs)
theorem clOf_run {env : Env} : ∀ (l : List (Str × NameKind)) (cs : List (Str × Addr)), (∀ y ∈ l, y.2 = .free → ∃ c, env.cells.lookup y.1 = some c) →
    (forIn l cs fun (x : Str × NameKind) (r : List (Str × Addr)) => (match x with
      | (name, kind) => if (kind == NameKind.free) = true then do let a ← cellOf env name; pure (ForInStep.yield ((name, a) :: r)) else pure (ForInStep.yield r) : Sem (ForInStep (List (Str × Addr))))) = (pure (clOf env l cs) : Sem _)
  | [], cs, _ => by rw [List.forIn_nil]; rfl
  | (n, k) :: r, cs, h => by
    rw [List.forIn_cons]
    have hr := fun cs' => clOf_run r cs' fun y hy => h y (List.mem_cons_of_mem _ hy)
    by_cases hk : (k == NameKind.free) = true
    · obtain ⟨c, hc⟩ := h (n, k) List.mem_cons_self (by simpa using hk)
      have hc : env.cells.lookup n = some c := hc
      simp only [hk, if_true, cellOf, hc, pure_bind, clOf, Option.getD_some]
      exact hr _
    · have hk : (k == NameKind.free) = false := by simpa using hk
      simp only [hk, Bool.false_eq_true, if_false, pure_bind, clOf]
      exact hr _
theorem closure_ok {env : Env} {scope : Scope} (h : ∀ y ∈ scope.names, y.2 = .free → ∃ c, env.cells.lookup y.1 = some c) : closureFor scope env = pure (clOf env scope.names []) := by
  unfold closureFor
  have e := clOf_run scope.names [] h
  first
    | exact e
    | (simp only [bind_pure_comp, id_map'] ; exact e)
    | (rw [show (do let cs ← _; return cs) = _ from bind_pure _]; exact e)
    | (simp; simpa using e)
theorem clOf_sub {env : Env} : ∀ (l : List (Str × NameKind)) (cs : List (Str × Addr)), (∀ y ∈ l, y.2 = .free → ∃ c, env.cells.lookup y.1 = some c) → (∀ p ∈ cs, env.cells.lookup p.1 = some p.2) →
    ∀ p ∈ clOf env l cs, env.cells.lookup p.1 = some p.2
  | [], cs, _, hc => hc
  | (n, k) :: r, cs, h, hc => by
    refine clOf_sub r _ (fun y hy => h y (List.mem_cons_of_mem _ hy)) ?_
    by_cases hk : (k == NameKind.free) = true
    · obtain ⟨c, e⟩ := h (n, k) List.mem_cons_self (by simpa using hk)
      have e : env.cells.lookup n = some c := e
      rw [if_pos hk]
      intro p hp
      rcases List.mem_cons.mp hp with rfl | hp
      · show env.cells.lookup n = some ((env.cells.lookup n).getD 0)
        rw [e]; rfl
      · exact hc p hp
    · rw [if_neg hk]; exact hc
theorem clOf_keep {env : Env} : ∀ (l : List (Str × NameKind)) (cs : List (Str × Addr)) (p : Str × Addr), p ∈ cs → p ∈ clOf env l cs
  | [], cs, p, h => h
  | (n, k) :: r, cs, p, h => by
    refine clOf_keep r _ p ?_
    split
    · exact List.mem_cons_of_mem _ h
    · exact h
theorem clOf_has {env : Env} : ∀ (l : List (Str × NameKind)) (cs : List (Str × Addr)) (x : Str), (x, NameKind.free) ∈ l → ∃ c, (x, c) ∈ clOf env l cs
  | (n, k) :: r, cs, x, h => by
    rcases List.mem_cons.mp h with h | h
    · have e1 : x = n := congrArg Prod.fst h
      have e2 : NameKind.free = k := congrArg Prod.snd h
      subst e1 e2
      refine ⟨(env.cells.lookup x).getD 0, clOf_keep r _ (x, _) ?_⟩
      rw [if_pos (by simp)]
      exact List.mem_cons_self
    · exact clOf_has r _ x h
theorem lookup_of_mem {α : Type} : ∀ {l : List (Str × α)} {x : Str} {c : α}, (x, c) ∈ l → ∃ d, l.lookup x = some d
  | (n, v) :: r, x, c, h => by
    by_cases e : x == n
    · exact ⟨v, by simp [List.lookup_cons, e]⟩
    · rcases List.mem_cons.mp h with h | h
      · cases h; exact absurd (by simp) e
      · obtain ⟨d, hd⟩ := lookup_of_mem h
        exact ⟨d, by simp [List.lookup_cons, e, hd]⟩
noncomputable def csOk (sc : Scope) (NX N' : List Str) (cs : List (Option Nat)) (scope : Scope) : Bool :=
  (scope.kind == .function) && (scope.names.all fun y => y.2 != .cell) && (scope.names.all fun y => y.2 != .local || scope.names.lookup y.1 == some .local) &&
  (scope.names.all fun y => y.2 != .free || (sc.names.lookup y.1 == some .cell || sc.names.lookup y.1 == some .free)) &&
  decide (cs.length = N'.length) &&
  ((List.range cs.length).all fun j => match cs[j]? with
    | some (some i) => (match N'[j]? with | some x => decide (NX[i]? = some x) && (scope.names.lookup x == some .free) | none => false)
    | _ => true)
structure CsOk (sc : Scope) (NX N' : List Str) (cs : List (Option Nat)) (scope : Scope) : Prop where
  kind : scope.kind = .function
  nocell : ∀ y ∈ scope.names, y.2 ≠ .cell
  names : ∀ y ∈ scope.names, y.2 = .local → scope.names.lookup y.1 = some .local
  free : ∀ y ∈ scope.names, y.2 = .free → sc.names.lookup y.1 = some .cell ∨ sc.names.lookup y.1 = some .free
  len : cs.length = N'.length
  capt : ∀ (j i : Nat) (x : Str), cs[j]? = some (some i) → N'[j]? = some x → NX[i]? = some x ∧ scope.names.lookup x = some .free
theorem CsOk.of {sc : Scope} {NX N' : List Str} {cs : List (Option Nat)} {scope : Scope} (h : csOk sc NX N' cs scope = true) : CsOk sc NX N' cs scope := by
  unfold csOk at h
  simp only [Bool.and_eq_true] at h
  obtain ⟨⟨⟨⟨⟨h1, h2⟩, h3⟩, h4⟩, h5⟩, h6⟩ := h
  refine ⟨by simpa using h1, fun y hy => ?_, fun y hy e => ?_, fun y hy e => ?_, of_decide_eq_true h5, fun j i x e1 e2 => ?_⟩
  · have := List.all_eq_true.mp h2 y hy; simpa using this
  · have := List.all_eq_true.mp h3 y hy; simpa [e] using this
  · have := List.all_eq_true.mp h4 y hy; simpa [e] using this
  · have hj : j < cs.length := (List.getElem?_eq_some_iff.mp e1).1
    have := List.all_eq_true.mp h6 j (List.mem_range.mpr hj)
    rw [e1, e2] at this
    simpa using this
noncomputable def cxC (X : Cx) (N' : List Str) (scope : Scope) (fp : List Addr) (s3 : Shared) (H3 : Hp) : Cx where
  prog := X.prog
  w := X.w
  K := X.K
  mg := X.mg
  base := X.base
  A := X.A
  N := N'
  s₀ := s3
  H₀ := H3
  env := compEnvC scope (clOf X.env scope.names []) s3.heap.objs.size X.env
  outer := X.stack
  stack := X.stack
  ex := fp
  fn := fun _ => false
  calm := X.calm
  pn := []
  xe := fun _ _ => False
noncomputable def cst (cs : List (Option Nat)) (σ : St) : St := cs.map fun o => match o with | some i => (σ[i]?).getD none | none => none
noncomputable def PTs (X : Cx) (ifs : List Expr) (t : TT) : Prop :=
  ∀ (pins : List (Addr × Obj)) (s : Shared) (σ : St) (H : Hp) (Q : Bool → Hp → Prop), Inv X pins σ H s → t σ H Q →
    wpAny (model X.prog X.w) X.A (forIn ifs true fun c r => if r = true then do let ok ← isTrue c X.env (eval c X.env); pure (ForInStep.yield ok) else pure (ForInStep.yield r)) (TP X pins σ Q) X.xe s
noncomputable def tT0 : TT := fun _ H Q => Q true H
theorem pts_nil {X : Cx} : PTs X [] tT0 := fun pins s σ H Q I h => wpAny_tests_nil ⟨H, I, h⟩
theorem pts_one {X : Cx} {c : Expr} {t : TT} (h : PT X c t) : PTs X [c] t := fun pins s σ H Q I q => wpAny_tests_one (h pins s σ H Q I q)
noncomputable def CompW (J : It) (g : TG) (tt : TT) (te : TE) (acc : Addr) (σ0 : St) (H0 : Hp) (Q : Hp → Prop) : Prop :=
  ∃ W : Nat → Nat → St → Hp → Prop, (∃ m, W 0 m σ0 H0) ∧ ∀ i m σ H, W i m σ H →
    (J.stop i H ∧ Q H) ∨ (J.go i H ∧ ∀ x H1, J.yld i H x H1 → g x σ H1 fun σ2 H2 => tt σ2 H2 fun b H3 =>
      if b = true then te σ2 H3 fun y H4 => ∃ ys, H4 acc = some (.lst ys) ∧ ys.length < sizeLine ∧ ∃ m', m' < m ∧ W (i + 1) m' σ2 (upd H4 acc (.lst (ys ++ [y])))
      else ∃ m', m' < m ∧ W (i + 1) m' σ2 H3)
noncomputable def tComp (cs : List (Option Nat)) (wi : TI) (g : TG) (tt : TT) (te : TE) : TE := fun σ H Q => wi σ H fun J H1 => ∀ acc, H1 acc = none → CompW J g tt te acc (cst cs σ) (upd H1 acc (.lst [])) (Q (.ref acc))
section
variable {prog : Program} {w : World} {A : Around} {R : Result → Shared → Prop} {s : Shared}
theorem compLoop_any {elt target iter : Expr} {ifs : List Expr} {scope : Scope} {pos : Pos} {it acc : Value} {env : Env} (I : Nat → Shared → Prop)
    (turn : ∀ n s, I n s → wpAny (model prog w) A (pyNext it) (fun r s₁ => match r with
      | none => R (.ok .next) s₁
      | some v => wpAny (model prog w) A (letOwnedTupleGo target it v) (fun _ s₁ => wpAny (model prog w) A (assign target env v) (fun _ s₂ =>
          wpAny (model prog w) A (forIn ifs true fun c r => if r = true then do let ok ← isTrue c env (eval c env); pure (ForInStep.yield ok) else pure (ForInStep.yield r)) (fun ok s₃ =>
            if ok = true then wpAny (model prog w) A (eval elt env) (fun x s₄ =>
              wpAny (model prog w) A (call (.builtin "list.append") [acc, x]) (fun _ s₅ => ∃ m, m < n ∧ I m s₅) (notedBy (model prog w) A env fun e s' => R (.error e) s') s₄) (notedBy (model prog w) A env fun e s' => R (.error e) s') s₃
            else ∃ m, m < n ∧ I m s₃) (notedBy (model prog w) A env fun e s' => R (.error e) s') s₂) (notedBy (model prog w) A env fun e s' => R (.error e) s') s₁) (notedBy (model prog w) A env fun e s' => R (.error e) s') s₁) (notedBy (model prog w) A env fun e s' => R (.error e) s') s)
    (n : Nat) (h : I n s) :
    codeAny (model prog w) A (.compLoop (.ListComp elt [⟨target, iter, ifs, 0⟩] scope pos) 0 it acc env) R s := by
  refine codeAny_loop rfl I (fun n s hI => ?_) n h
  show wpAny _ A ((compTurn (.ListComp elt [⟨target, iter, ifs, 0⟩] scope pos) 0 it acc env).onRaise (fun x => do noteFrame x env; theTreesLotGoes x)) _ _ s
  refine wpAny_noted ?_
  rw [compTurn_list]
  refine wpAny_bind (wpAny_standAt (wpAny_bind (wpAny_mono (turn n s hI) (fun r s₁ h₁ => ?_) fun _ _ h' => h')))
  cases r with
  | none => exact wpAny_pure h₁
  | some v =>
    refine wpAny_bind (wpAny_mono h₁ (fun _ s₁ h₁ => ?_) fun _ _ h' => h')
    refine wpAny_bind (wpAny_mono h₁ (fun _ s₂ h₂ => wpAny_bind (wpAny_mono h₂ (fun ok s₃ h₃ => ?_) fun _ _ h' => h')) fun _ _ h' => h')
    cases ok with
    | false => exact wpAny_pure ⟨rfl, h₃⟩
    | true =>
      exact wpAny_bind (wpAny_bind (wpAny_mono h₃ (fun x s₄ h₄ => wpAny_bind (wpAny_mono h₄ (fun _ s₅ h₅ => wpAny_pure (wpAny_pure ⟨rfl, h₅⟩)) fun _ _ h' => h')) fun _ _ h' => h'))
end
section
variable {X : Cx} {pins : List (Addr × Obj)} {σ : St} {H2 : Hp} {s2 : Shared}
theorem relabel_free {scope : Scope} {env : Env} : ∀ {l : List (Str × NameKind)} {x : Str} {k : NameKind},
    (l.map fun (n, k) => if (k == NameKind.free && env.scope.kind == .function && env.kindOf n == some .cell) then (n, NameKind.cell) else (n, k)).lookup x = some k →
    l.lookup x = some k ∨ (l.lookup x = some .free ∧ k = .cell)
  | [], x, k, h => by simp at h
  | (n, k') :: r, x, k, h => by
    have ih := @relabel_free scope env r x k
    rw [List.map_cons] at h
    by_cases hx : (x == n) = true
    · by_cases hc : (k' == NameKind.free && env.scope.kind == .function && env.kindOf n == some .cell) = true
      · simp only [hc, if_true, List.lookup_cons, hx] at h
        have e : k' = .free := by simp only [Bool.and_eq_true] at hc; simpa using hc.1.1
        simp only [List.lookup_cons, hx]
        exact .inr ⟨by rw [e], (Option.some.inj h).symm⟩
      · simp only [hc, if_false, List.lookup_cons, hx, Bool.false_eq_true] at h
        simp only [List.lookup_cons, hx]
        exact .inl h
    · have hx : (x == n) = false := by simpa using hx
      by_cases hc : (k' == NameKind.free && env.scope.kind == .function && env.kindOf n == some .cell) = true
      · simp only [hc, if_true, List.lookup_cons, hx] at h
        simp only [List.lookup_cons, hx]
        exact ih h
      · simp only [hc, if_false, List.lookup_cons, hx, Bool.false_eq_true] at h
        simp only [List.lookup_cons, hx]
        exact ih h
theorem comp_core {elt target iter : Expr} {ifs : List Expr} {scope : Scope} {pos : Pos} {E : Value → Shared → Prop} {N' : List Str} {cs : List (Option Nat)} {it : Addr} {fp : List Addr} {tn : Nat → Heap → Prop} {J : It} {g : TG} {tt : TT} {te : TE} {Q : VK}
    {RR : Value → Addr → Result → Shared → Prop} (hc : X.calm = true) (F : CsOk X.env.scope X.N N' cs scope)
    (hg : ∀ s3 H3, PG (cxC X N' scope fp s3 H3) target g) (ht : ∀ s3 H3, PTs (cxC X N' scope fp s3 H3) ifs tt) (he : ∀ s3 H3, PE (cxC X N' scope fp s3 H3) elt te)
    (I2 : Inv X pins σ H2 s2) (T : Turn X.prog X.w X.K target J fp it tn) (st2 : tn 0 s2.heap) (f2 : ∀ b ∈ fp, FpOk X pins H2 b)
    (hW : ∀ acc, H2 acc = none → CompW J g tt te acc (cst cs σ) (upd H2 acc (.lst [])) (Q (.ref acc)))
    (hRR : ∀ D C s' H' m, Inv X pins σ H' s' → s'.heap.Ns C m → H' C = none → C ≠ X.env.locals → X.s₀.heap.objs.size ≤ C → (∀ x c, X.env.cells.lookup x = some c → c ≠ C) → (∀ p ∈ X.pn ++ pins, p.1 ≠ C) → Q (.ref D) H' → RR (.ref D) C (.ok .next) s') :
    wpAny (model X.prog X.w) X.A (newList []) (fun acc s₃ => wpAny (model X.prog X.w) X.A (newFunctionEnv scope X.env.globals (clOf X.env scope.names []) [] X.env.qual none .none (some X.env)) (fun cenv s₄ =>
      codeAny (model X.prog X.w) X.A (.compStart (.ListComp elt [⟨target, iter, ifs, 0⟩] scope pos) 0 (.ref it) acc { cenv with scope := relabel scope X.env }) (RR acc cenv.locals) s₄) E s₃) E s2 := by
  refine wpAny_newObj_type (wpAny_newFunctionEnv F.nocell (by intro y hy; simp at hy) (fun h₁ hns₁ hsb₁ => ?_) F.kind)
  dsimp only at hns₁ hsb₁ ⊢
  have hfree : ∀ y ∈ scope.names, y.2 = .free → ∃ c, X.env.cells.lookup y.1 = some c := fun y hy e => I2.ok.has y.1 (F.free y hy e)
  have sub : ∀ x c, (clOf X.env scope.names []).lookup x = some c → X.env.cells.lookup x = some c := fun x c e => clOf_sub scope.names [] hfree (by simp) (x, c) (PySem.mem_of_lookup e)
  obtain ⟨W, ⟨m0, w0⟩, turn⟩ := hW s2.heap.objs.size I2.fresh
  have I3 := I2.lnew (t' := s2.toks) (its := []) (ys := []) .nil (Nat.zero_le _)
  generalize hs3 : ({ s2 with heap := s2.heap.push { cls := .type "list", data := .seq ([] : List Value).toArray }, toks := s2.toks } : Shared) = s3 at I3
  generalize hH3 : upd H2 s2.heap.objs.size (HO.lst []) = H3 at I3 w0
  have e3 : s2.heap.push { cls := .type "list", dict := none, data := .seq ([] : List Value).toArray } = s3.heap := by rw [← hs3]
  rw [e3] at hns₁ hsb₁ ⊢
  have old : ∀ b o, s3.heap.get? b = some o → h₁.get? b = some o := fun b o e => hsb₁.extBut b o (Nat.ne_of_lt (Heap.lt_size e)) (Heap.get?_push_of_some _ e)
  have sz3 : s3.heap.objs.size = s2.heap.objs.size + 1 := by rw [← hs3]; exact Heap.size_push ..
  have fpn3 : ∀ b ∈ fp, H3 b = none := fun b hb => by
    obtain ⟨o, ho, _⟩ := T.obj 0 _ st2 b hb
    rw [← hH3, upd_ne (Nat.ne_of_lt (Heap.lt_size ho))]
    exact (f2 b hb).1
  have fplt : ∀ b ∈ fp, b < s3.heap.objs.size := fun b hb => by
    obtain ⟨o, ho, _⟩ := T.obj 0 _ st2 b hb
    exact Nat.lt_of_lt_of_le (Heap.lt_size ho) (by rw [sz3]; exact Nat.le_succ _)
  -- the block's own facts
  have okC : (cxC X N' scope fp s3 H3).Ok := by
    refine ⟨I3.ok.mod, F.kind, I3.ok.glob, I3.ok.blt, Nat.le_refl _, fun x y c h1 h2 => I3.ok.inj x y c (sub x c h1) (sub y c h2), fun x hx => ?_, fun x c h => (Bool.false_ne_true h).elim, I3.ok.hd, I3.ok.frames, .inl rfl, fun b hb => ⟨Nat.ne_of_lt (fplt b hb), fun x c e => (f2 b hb).2.2.2.2.1 x c (sub x c e)⟩,
      I3.bs, Nat.le_trans I3.ok.bsz I3.sz, fun b o e hb => ?_, fun b hb z => ?_, I3.stack, I3.stkFree⟩
    · have hx : scope.names.lookup x = some .free := by
        rcases hx with hx | hx
        · rcases relabel_free (scope := scope) (env := X.env) hx with q | ⟨q, _⟩
          · exact absurd rfl (F.nocell _ (PySem.mem_of_lookup q))
          · exact q
        · rcases relabel_free (scope := scope) (env := X.env) hx with q | ⟨q, z⟩
          · exact q
          · cases z
      obtain ⟨c, hm⟩ := clOf_has (env := X.env) scope.names [] x (PySem.mem_of_lookup hx)
      exact lookup_of_mem hm
    · rcases (f2 b hb).2.2.2.1 with z | z
      · exact I3.ok.noex b o e z
      · have h1 := Heap.lt_size e
        have h2 := I3.ok.bsz
        exact absurd (Nat.lt_of_lt_of_le h1 h2) (Nat.not_lt.mpr z)
    · rcases List.mem_cons.mp (I3.stkSub b z) with q | q
      · exact (f2 b hb).2.1 q
      · exact (f2 b hb).2.2.1 q
  have σlen : (cst cs σ).length = N'.length := by unfold cst; rw [List.length_map]; exact F.len
  have IC : Inv (cxC X N' scope fp s3 H3) [] (cst cs σ) H3 { s3 with heap := h₁, toks := s3.toks + ([] : List (Str × Value)).length } := by
    refine ⟨okC, rfl, I3.bare, Un.kept old, ⟨_, hns₁, fun j x v e1 e2 e3 => ?_⟩, fun x c e => ?_, I3.fresh, fun x c e => I3.freeC x c (sub x c e), fun p hp => absurd (show p ∈ ([] : List (Addr × Obj)) from hp) (by simp), I3.hok.kept old, σlen⟩
    · -- a name of the block that has a value is an outer one
      obtain ⟨i, hi, hv⟩ : ∃ i, cs[j]? = some (some i) ∧ σ[i]? = some (some v) := by
        unfold cst at e2
        rw [List.getElem?_map] at e2
        cases q : cs[j]? with
        | none => rw [q] at e2; cases e2
        | some o =>
          rw [q] at e2
          cases o with
          | none => cases e2
          | some i =>
            refine ⟨i, rfl, ?_⟩
            have e2 : (σ[i]?).getD none = some v := Option.some.inj e2
            cases q2 : σ[i]? with
            | none => rw [q2] at e2; cases e2
            | some z => rw [q2] at e2; exact congrArg some e2
      obtain ⟨hN, hf⟩ := F.capt j i x hi e1
      obtain ⟨m, hn, hl⟩ := I3.loc
      have hk := F.free _ (PySem.mem_of_lookup hf) rfl
      obtain ⟨u, r, l⟩ := hl i x v hN hv (.inr hk)
      refine ⟨u, r, .inr ⟨?_, ?_⟩⟩
      · rcases e3 with e3 | e3 | e3
        · rcases relabel_free (scope := scope) (env := X.env) e3 with q | ⟨_, z⟩
          · rw [hf] at q; cases q
          · cases z
        · exact .inl e3
        · exact .inr e3
      · rcases l with ⟨z, _⟩ | ⟨_, c, hc', hcell⟩
        · have z : X.env.scope.names.lookup x = some .local := z
          rcases hk with k | k <;> (rw [k] at z; cases z)
        · obtain ⟨c2, hm⟩ := clOf_has (env := X.env) scope.names [] x (PySem.mem_of_lookup hf)
          obtain ⟨c3, h3⟩ := lookup_of_mem hm
          have e4 := sub x c3 h3
          rw [hc'] at e4
          cases e4
          obtain ⟨o, ho, hd⟩ := hcell
          exact ⟨c, h3, o, old _ _ ho, hd⟩
    · obtain ⟨v, o, ho, hd⟩ := I3.cell x c (sub x c e)
      exact ⟨v, o, old _ _ ho, hd⟩
  have st4 : tn 0 h₁ := T.keep 0 s2.heap h₁ st2 fun b hb o e => old b o (by rw [← e3]; exact Heap.get?_push_of_some _ e)
  -- what stays true of the iterator's objects through the loop
  have stat : ∀ {H' : Hp}, (∀ b ∈ fp, H' b = none) → ∀ b ∈ fp, FpOk (cxC X N' scope fp s3 H3) [] H' b := fun hn b hb =>
    ⟨hn b hb, Nat.ne_of_lt (fplt b hb), okC.exfs b hb, .inl hb, fun x c e => (f2 b hb).2.2.2.2.1 x c (sub x c e), fun p hp => absurd (show p ∈ ([] : List (Addr × Obj)) from hp) (by simp)⟩
  have noE : ∀ {α : Type} {t : Sem α} {Q' : α → Shared → Prop} {E' : Value → Shared → Prop} {s' : Shared}, wpAny (model X.prog X.w) X.A t Q' (fun _ _ => False) s' → wpAny (model X.prog X.w) X.A t Q' E' s' := fun h => wpAny_mono h (fun _ _ q => q) fun _ _ f => f.elim
  -- behind the loop
  have fin : ∀ {σ' : St} {H' : Hp} {s' : Shared}, Inv (cxC X N' scope fp s3 H3) [] σ' H' s' → Q (.ref s2.heap.objs.size) H' → RR (.ref s2.heap.objs.size) s3.heap.objs.size (.ok .next) s' := fun {σ' H' s'} I' q => by
    obtain ⟨m, hn, _⟩ := I'.loc
    refine hRR _ _ s' H' m (I3.call' I'.os I'.base I'.hok I'.bare fun b hb => ?_) hn I'.free (Nat.ne_of_gt I3.lt) I3.sz (fun x c e z => ?_) (fun p hp z => ?_) q
    · obtain ⟨_, g1, _, g3, g4, g5⟩ := f2 b hb
      exact ⟨g3, g1, g4, g5⟩
    · obtain ⟨v, o, ho, _⟩ := I3.cell x c e
      exact absurd (Heap.lt_size ho) (by rw [z]; exact Nat.lt_irrefl _)
    · exact absurd (Heap.lt_size (I3.pin p hp).1) (by rw [z]; exact Nat.lt_irrefl _)
  have loop : codeAny (model X.prog X.w) X.A (.compLoop (.ListComp elt [⟨target, iter, ifs, 0⟩] scope pos) 0 (.ref it) (.ref s2.heap.objs.size) (cxC X N' scope fp s3 H3).env)
      (RR (.ref s2.heap.objs.size) s3.heap.objs.size) { s3 with heap := h₁, toks := s3.toks + ([] : List (Str × Value)).length } := by
    refine compLoop_any (fun n s' => ∃ i σ' H', Inv (cxC X N' scope fp s3 H3) [] σ' H' s' ∧ tn i s'.heap ∧ (∀ b ∈ fp, H' b = none) ∧ W i n σ' H') ?_ m0 ⟨0, _, H3, IC, st4, fpn3, w0⟩
    rintro n s4 ⟨i, σ4, H4, I4, st4, fr4, w4⟩
    rcases turn i n σ4 H4 w4 with ⟨stop, qn⟩ | ⟨go, step⟩
    · refine thn (T.done (cxC X N' scope fp s3 H3) rfl rfl rfl hc i [] s4 σ4 H4 _ I4 (stat fr4) st4 stop) fun r s5 hh => ?_
      obtain ⟨hr, I5⟩ := hh
      subst hr
      exact fin I5 qn
    · refine thn (T.item (cxC X N' scope fp s3 H3) rfl rfl rfl hc i [] s4 σ4 H4 _ I4 (stat fr4) st4 go) fun r s5 hh => ?_
      obtain ⟨u, hr, h5⟩ := hh
      subst hr
      refine thn h5 fun _ s6 hh => ?_
      obtain ⟨x, H6, I6, r6, y6, st6, fr6⟩ := hh
      have I6' := I6.pinned (stat fr6) (T.obj _ _ st6)
      have keepT : ∀ {σ7 : St} {H7 : Hp} {s7 : Shared}, Inv (cxC X N' scope fp s3 H3) ([] ++ pinsAt fp s6.heap) σ7 H7 s7 → tn (i + 1) s7.heap ∧ ∀ b ∈ fp, H7 b = none := fun {σ7 H7 s7} I7 =>
        ⟨T.keep _ _ _ st6 fun b hb o e => (I7.pin (b, o) (List.mem_append_right _ (List.mem_append_right _ (mem_pinsAt hb e)))).1, fun b hb => by
          obtain ⟨o, e, d⟩ := T.obj _ _ st6 b hb
          exact (I7.pin (b, o) (List.mem_append_right _ (List.mem_append_right _ (mem_pinsAt hb e)))).2.1⟩
      refine noE (thn (hg s3 H3 _ s6 σ4 H6 x u _ I6' r6 (step x H6 y6)) fun _ s7 hh => ?_)
      obtain ⟨σ7, H7, I7, q7⟩ := hh
      refine noE (thn (ht s3 H3 _ s7 σ7 H7 _ I7 q7) fun b s8 hh => ?_)
      obtain ⟨H8, I8, q8⟩ := hh
      cases b with
      | false =>
        rw [if_neg Bool.false_ne_true] at q8 ⊢
        obtain ⟨m', hm, w8⟩ := q8
        obtain ⟨t8, n8⟩ := keepT I8
        exact ⟨m', hm, i + 1, σ7, H8, I8.unpinned, t8, n8, w8⟩
      | true =>
        rw [if_pos rfl] at q8 ⊢
        refine noE (thn (he s3 H3 _ s8 σ7 H8 _ I8 q8) fun v s9 hh => ?_)
        obtain ⟨y, H9, I9, r9, ys, hacc, hz, m', hm, w9⟩ := hh
        refine noE (thn (mt_append (X := cxC X N' scope fp s3 H3) _ s9 σ7 H9 (.ref s2.heap.objs.size) [y] (.ref s2.heap.objs.size) [v] (fun _ H' => W (i + 1) m' σ7 H') I9 rfl (.cons r9 .nil) ⟨_, ys, y, rfl, rfl, hacc, hz, w9⟩) fun _ s10 hh => ?_)
        obtain ⟨_, H10, I10, _, w10⟩ := hh
        obtain ⟨t10, n10⟩ := keepT I10
        exact ⟨m', hm, i + 1, σ7, H10, I10.unpinned, t10, n10, w10⟩
  have e5 : ({ s2 with heap := h₁, toks := s2.toks + ([] : List (Str × Value)).length } : Shared) = { s3 with heap := h₁, toks := s3.toks + ([] : List (Str × Value)).length } := by rw [← hs3]
  rw [e5]
  exact codeAny_compStart_list loop (T.self _ 0 _ _ _ st4 loop)
end
section
variable {X : Cx}
theorem pe_comp {elt target iter : Expr} {ifs : List Expr} {scope : Scope} {pos : Pos} {wi : TI} {g : TG} {tt : TT} {te : TE} {sc : Scope} {NX : List Str} (N' : List Str) (cs : List (Option Nat)) (hc : X.calm = true)
    (hi : PI X target iter wi) (hg : ∀ fp s3 H3, PG (cxC X N' scope fp s3 H3) target g) (ht : ∀ fp s3 H3, PTs (cxC X N' scope fp s3 H3) ifs tt) (he : ∀ fp s3 H3, PE (cxC X N' scope fp s3 H3) elt te)
    (hsc : X.env.scope = sc) (hN : X.N = NX) (hcs : csOk sc NX N' cs scope = true) (hs : ∀ x, foldedSetIterable iter X.env x = pure x := by intro _; rfl) :
    PE X (.ListComp elt [⟨target, iter, ifs, 0⟩] scope pos) (tComp cs wi g tt te) := by
  intro pins s σ H Q I h
  subst hsc hN
  have F := CsOk.of hcs
  rw [eval_ListComp]
  refine wpAny_comprehension_free (use := none) rfl hs (closure_ok fun y hy e => I.ok.has y.1 (F.free y hy e)) F.kind F.names ?_
  refine thn (hi pins s σ H _ I h) fun v s1 h1 => thn h1 fun itv s2 h2 => ?_
  obtain ⟨it, fp, tn, J, H2, rfl, I2, T, st2, f2, hW⟩ := h2
  refine comp_core (RR := fun acc C => compPost (model X.prog X.w) X.A X.xe none (EP X pins σ Q) acc C) (Q := Q) hc F (hg fp) (ht fp) (he fp) I2 T st2 f2 hW ?_
  intro D C s' H' m I' hn hC hL hsz hcell hpin q
  refine ⟨m, hn, fun h' hs' => ⟨.ref D, H', ?_, rfl, q⟩⟩
  exact I'.turned (t' := s'.toks) (it := C) (fun b o hb e => (hs'.2 b hb).trans e) hC hL (.inr hsz) hcell hpin
theorem ps_setC {i : Nat} {y : Str} {py spos : Pos} {elt target iter : Expr} {ifs : List Expr} {scope : Scope} {pos : Pos} {wi : TI} {g : TG} {tt : TT} {te : TE} {sc : Scope} {NX : List Str} (N' : List Str) (cs : List (Option Nat)) (hc : X.calm = true)
    (hND : X.N.Nodup) (hiN : X.N[i]? = some y) (hy : X.env.scope.names.lookup y = some .local)
    (hi : PI X target iter wi) (hg : ∀ fp s3 H3, PG (cxC X N' scope fp s3 H3) target g) (ht : ∀ fp s3 H3, PTs (cxC X N' scope fp s3 H3) ifs tt) (he : ∀ fp s3 H3, PE (cxC X N' scope fp s3 H3) elt te)
    (hsc : X.env.scope = sc) (hN : X.N = NX) (hcs : csOk sc NX N' cs scope = true)
    (hsw : swapsWith (.ListComp elt [⟨target, iter, ifs, 0⟩] scope pos) (some (.Name y py)) spos.line X.env = pure true)
    (hs : ∀ x, foldedSetIterable iter X.env x = pure x := by intro _; rfl) :
    PS X (.Assign [.Name y py] (.ListComp elt [⟨target, iter, ifs, 0⟩] scope pos) spos) (tAsg (tComp cs wi g tt te) (gName i)) := by
  intro pins s σ H D I h
  subst hsc hN
  have F := CsOk.of hcs
  rw [exec_Assign_Name_used _ _ _ _ hsw]
  refine wpAny_bind (wpAny_standAt (wpAny_bind ?_))
  show wpAny _ X.A (do let _ ← comprehension (.ListComp elt [⟨target, iter, ifs, 0⟩] scope pos) scope X.env _ (newList []) false (eval iter X.env) (some (assign (.Name y py) X.env))) _ _ s
  refine wpAny_bind (wpAny_mono (wpAny_comprehension_free (use := some (assign (.Name y py) X.env)) (Q := fun _ s' => SP X pins D .next s') rfl hs (closure_ok fun y hy e => I.ok.has y.1 (F.free y hy e)) F.kind F.names ?_) (fun _ s' hq => wpAny_pure (wpAny_pure hq)) fun _ _ e => e)
  refine thn (hi pins s σ H _ I h) fun v s1 h1 => thn h1 fun itv s2 h2 => ?_
  obtain ⟨it, fp, tn, J, H2, rfl, I2, T, st2, f2, hW⟩ := h2
  refine comp_core (RR := fun acc C => compPost (model X.prog X.w) X.A X.xe (some (assign (.Name y py) X.env)) (fun _ s' => SP X pins D .next s') acc C) (Q := fun x H' => gName i x σ H' D.nx) hc F (hg fp) (ht fp) (he fp) I2 T st2 f2 hW ?_
  intro A C s' H' m I' hn hC hL hsz hcell hpin q
  show wpAny _ X.A (assign (.Name y py) X.env (.ref A)) _ _ s'
  refine wpAny_assign_Name (store_ok2 I' hND hiN (.inl hy) (v := .ref A) rfl (fun s'' I'' ⟨a, hsa, ha⟩ => ?_) (.inr hy))
  have hCa : C ≠ a := by
    rcases ha with rfl | ha
    · exact hL
    · exact fun z => hcell _ _ ha z.symm
  refine ⟨m, hn.sameBut hsa hCa, fun h' hs' => ⟨_, H', ?_, q⟩⟩
  exact I''.turned (t' := s''.toks) (it := C) (fun b o hb e => (hs'.2 b hb).trans e) hC hL (.inr hsz) hcell hpin
end
end L3
namespace L3
open PySem PySem.Spec PyProof.Rows L2
section
variable {X : Cx}
noncomputable def rInsert : V → List V → Hp → VK → Prop := fun x vs H Q => ∃ l xs i y, x = .ref l ∧ vs = [.int i, y] ∧ H l = some (.lst xs) ∧ 0 ≤ i ∧ i ≤ xs.length ∧ xs.length < sizeLine ∧ Q .non (upd H l (.lst (xs.take i.toNat ++ y :: xs.drop i.toNat)))
theorem insert_eq (its : List Value) (i : Int) (u : Value) (h0 : 0 ≤ i) (h1 : i ≤ its.length) :
    (fun xs : Array Value => have k := if i < 0 then (i + ((xs.size : Nat) : Int)).toNat else min i.toNat xs.size; (xs.extract 0 k).push u ++ xs.extract k) its.toArray = (its.take i.toNat ++ u :: its.drop i.toNat).toArray := by
  have e : (if i < 0 then (i + ((its.toArray.size : Nat) : Int)).toNat else min i.toNat its.toArray.size) = i.toNat := by
    rw [if_neg (by (first | lia | omega)), List.size_toArray]; (first | lia | omega)
  show ((its.toArray.extract 0 _).push u ++ its.toArray.extract _) = _
  rw [e]
  apply Array.ext'
  simp
  exact List.take_of_length_le (by rw [List.length_drop]; (first | lia | omega))
theorem mt_insert : MtM X "list.insert" rInsert := by
  intro pins s σ H x vs v us Q I rx rv h
  obtain ⟨l, xs, i, y, rfl, rfl, hH, h0, h1, hz, q⟩ := h
  cases rx
  obtain ⟨u1, u2, rfl, ⟨t, rfl⟩, ru⟩ := rv.two
  obtain ⟨z, its, n, r, hl, e⟩ := I.lstM hH
  have hs := sizeLine_eq
  have hfit : ¬ (!Builtin.List.listFitsIndex i) = true := by
    have q : Builtin.List.listFitsIndex i = true := by
      unfold Builtin.List.listFitsIndex
      simp only [Bool.and_eq_true, decide_eq_true_eq]
      constructor <;> (first | lia | omega)
    rw [q]; decide
  refine call_meets F.slot_list_insert ⟨_, e, rfl⟩ F.entry_list_insert (F.args_list_insert_3 _ _ _) (AutoListH.list_insert_list_int_val_1 l its.toArray n i t u2 hfit (by rw [List.size_toArray]; (first | lia | omega))) ⟨e, ?_⟩
  refine ⟨.non, _, I.lset (its' := its.take i.toNat ++ u2 :: its.drop i.toNat) hH e (insert_eq its i u2 h0 (by (first | lia | omega))) ((r.take _).append (.cons ru (r.drop _))) ?_, rfl, q⟩
  simp only [List.length_append, List.length_take, List.length_cons, List.length_drop]
  (first | lia | omega)
noncomputable def tRng1 (ta : TA) : TE := fun σ H Q => ta σ H fun vs H1 => ∃ j : Int, vs = [.int j] ∧ New H1 (.rng 0 j) Q
theorem pe_range1 {a : Expr} {ta : TA} {p pos : Pos} (hg : Gl X "range") (hm : X.mg "range" = none) (ha : PA X [a] ta) (hs : starEach [a] X.env = [(false, eval a X.env)] := by rfl) : PE X (.Call (.Name "range" p) [a] [] pos) (tRng1 ta) := by
  intro pins s σ H Q I h
  refine Call_ (ld_blt I hg hm boot_range (PyProof.Rows.callWith_type1 (thn (ha pos pins s σ H _ I h) fun us s1 ⟨vs, H1, I1, r1, q1⟩ => ?_) hs rfl))
  obtain ⟨j, e, q⟩ := q1
  subst e
  cases r1 with
  | cons r rr =>
    cases rr
    obtain ⟨t, rfl⟩ := r
    refine call_range_1 ⟨.ref s1.heap.objs.size, _, I1.laid (o := .rng 0 j) (fun _ _ q => Heap.get?_push_of_some _ q) (Nat.le_refl _) ?_, rfl, q.at I1.fresh⟩
    exact ⟨_, _, _, Heap.get?_push_size _ rfl⟩
noncomputable def rangeVs (lo hi : Int) : List V := (List.range (hi - lo).toNat).map fun k : Nat => V.int (lo + k)
theorem vals_range : ∀ (n : Nat) (lo : Int) (us : List Value), us.length = n → (∀ (j : Nat) v, us[j]? = some v → ∃ t, v = Value.int (lo + j) t) → Vals ((List.range n).map fun k : Nat => V.int (lo + k)) us
  | 0, lo, us, hl, _ => by
    have : us = [] := List.length_eq_zero_iff.mp hl
    subst this; exact .nil
  | n + 1, lo, [], hl, _ => by simp at hl
  | n + 1, lo, u :: us, hl, h => by
    have e : (List.range (n + 1)).map (fun k : Nat => V.int (lo + k)) = V.int lo :: (List.range n).map fun k : Nat => V.int (lo + 1 + k) := by
      rw [List.range_succ_eq_map, List.map_cons, List.map_map]
      congr 1
      · simp
      · apply List.map_congr_left
        intro k _
        show V.int (lo + ((k + 1 : Nat) : Int)) = _
        congr 1; (first | lia | omega)
    rw [e]
    obtain ⟨t, ht⟩ := h 0 u rfl
    refine .cons ⟨t, by rw [ht]; simp⟩ (vals_range n (lo + 1) us (by simpa using hl) fun j v hj => ?_)
    obtain ⟨t, ht⟩ := h (j + 1) v (by simpa using hj)
    exact ⟨t, by rw [ht]; congr 1; (first | lia | omega)⟩
theorem call_list_rng (hc : X.calm = true) : CallR X (.type "list") (fun xs H Q => ∃ r lo hi, xs = [.ref r] ∧ H r = some (.rng lo hi) ∧ (-(2 ^ 62) ≤ lo ∧ lo < 2 ^ 62 ∧ -(2 ^ 62) ≤ hi ∧ hi < 2 ^ 62 ∧ hi - lo ≤ 2 ^ 24) ∧ New H (.lst (rangeVs lo hi)) Q) := by
  intro pins s σ H xs us Q I rv h
  obtain ⟨r, lo, hi, rfl, hr, ⟨h1, h2, h3, h4, h5⟩, q⟩ := h
  obtain ⟨u, rfl, ru⟩ := vals1 rv
  cases ru
  obtain ⟨t, u, v, e⟩ := I.hok r _ hr
  refine call_list_range (n := (hi - lo).toNat) (I.ok.hd hc) (a := lo) (b := hi) (c := 1) e (small_one h1 h2 h3 h4) (by rw [rangeSize_one]; split <;> (first | lia | omega)) (by (first | lia | omega)) fun h' tk acc c hk hD hI => ?_
  refine ⟨.ref s.heap.objs.size, _, I.laid (o := .lst (rangeVs lo hi)) hk (Nat.le_refl _) ?_, rfl, q.at I.fresh⟩
  refine ⟨?_, acc.toList, c, ?_, by rw [Array.toArray_toList]; exact hD⟩
  · unfold rangeVs
    rw [List.length_map, List.length_range, sizeLine_eq]; (first | lia | omega)
  · refine vals_range _ _ _ (by rw [Array.length_toList]; exact hI.1) fun j v hj => ?_
    obtain ⟨t, ht⟩ := hI.2 j v (by rw [← hj, Array.getElem?_toList])
    exact ⟨t, by rw [ht]; congr 1; (first | lia | omega)⟩
noncomputable def tRev (K : PySem.W.Frag) (te : TE) (tk : TO) : TE := fun σ H Q => te σ H fun x H1 => tk σ H1 fun o H2 => o = some (-1) ∧ ∃ a xs, x = .ref a ∧ SqL K H2 a xs ∧ New H2 (.lst xs.reverse) Q
theorem pe_rev {e k : Expr} {te : TE} {tk : TO} {p2 pos : Pos} (he : PE X e te) (hk : PO X (some k) tk) : PE X (.Subscript e (.Slice none none (some k) p2) pos) (tRev X.K te tk) := by
  intro pins s σ H Q I h
  refine Subscript_ (thn (he pins s σ H _ I h) fun v s1 hh => ?_)
  obtain ⟨x, H1, I1, r1, q1⟩ := hh
  refine wpAny_Slice ?_
  rw [evalPart_none]
  refine wpAny_pure (wpAny_pure ?_)
  refine thn (hk pins s1 σ H1 _ I1 q1) fun vk s3 hh => ?_
  obtain ⟨o, H3, I3, pk, eo, a, xs, hx, hS, q⟩ := hh
  subst eo hx
  cases r1
  have I4 : Inv X pins σ H3 { s3 with heap := s3.heap.push { cls := .type "slice", data := .fields #[.none, .none, vk] } } := I3.kept (t' := s3.toks) fun b ob q => Heap.get?_push_of_some _ q
  obtain ⟨its, r, ht, hz⟩ := I4.list hS
  have hlen := r.length
  show wpAny (model X.prog X.w) X.A (subscriptTail e (.Slice none none (some k) p2) (.ref a) (.ref s3.heap.objs.size)) (EP X pins σ Q) X.xe { s3 with heap := s3.heap.push { cls := .type "slice", data := .fields #[.none, .none, vk] } }
  refine tail_any (ops := [.ref a, .ref s3.heap.objs.size]) ht.isList.typeIs slot_list_getitem.lookup ?_ (by with_unfolding_all rfl)
  refine wpAny_getItem_list_slice ht.isList (Heap.IsSliceOf.new ..) .none .none pk (by simp) ?_ (by rw [List.size_toArray] <;> (first | lia | omega))
  rw [PySem.W.krv_pick]
  refine ⟨.ref _, _, I4.laid (t' := s3.toks) (o := .lst xs.reverse) (fun b ob q => Heap.get?_push_of_some _ q) (Nat.le_refl _) ?_, rfl, q.at I4.fresh⟩
  exact ⟨by rw [List.length_reverse]; exact hz, _, 0, r.reverse, Heap.get?_push_size _ rfl⟩
noncomputable def tTupN (t : TA) : TE := fun σ H Q => t σ H fun xs H1 => xs.length ≤ sizeLine ∧ New H1 (.tup xs) Q
noncomputable def tLstN (t : TA) : TE := fun σ H Q => t σ H fun xs H1 => xs.length ≤ sizeLine ∧ New H1 (.lst xs) Q
theorem pe_tupN {es : List Expr} {t : TA} {x1} {pos : Pos} (h : PA X es t) : PE X (.Tuple es x1 pos) (tTupN t) := by
  intro pins s σ H Q I hq
  refine wpAny_Tuple_spliced (thn (h pos pins s σ H _ I hq) fun us s1 ⟨xs, H1, I1, r, z, q⟩ => ⟨by rw [← r.length]; exact z, ?_⟩)
  refine ⟨.ref s1.heap.objs.size, upd H1 s1.heap.objs.size (.tup xs), I1.laid (t' := s1.toks) (fun b u e => Heap.get?_push_of_some _ e) (Nat.le_refl _) ?_, rfl, q.at I1.fresh⟩
  exact ⟨z, us, r, ⟨_, Heap.get?_push_size _ rfl, rfl, _, rfl⟩⟩
theorem pe_lstN {es : List Expr} {t : TA} {pos : Pos} (h : PA X es t) : PE X (.List es pos) (tLstN t) := by
  intro pins s σ H Q I hq
  refine wpAny_List_spliced (thn (h pos pins s σ H _ I hq) fun us s1 ⟨xs, H1, I1, r, z, q⟩ => ⟨by rw [← r.length]; exact z, ?_⟩)
  refine ⟨.ref s1.heap.objs.size, upd H1 s1.heap.objs.size (.lst xs), I1.laid (t' := s1.toks) (fun b u e => Heap.get?_push_of_some _ e) (Nat.le_refl _) ?_, rfl, q.at I1.fresh⟩
  exact ⟨z, us, 0, r, Heap.get?_push_size _ rfl⟩
noncomputable def rListN (K : PySem.W.Frag) : List V → Hp → VK → Prop := fun xs H Q => ∃ p ys, xs = [.ref p] ∧ (SqL K H p ys ∨ SqT K H p ys) ∧ New H (.lst ys) Q
theorem call_listN : CallR X (.type "list") (rListN X.K) := by
  intro pins s σ H xs us Q I r h
  obtain ⟨p, ys, e, hq, q⟩ := h
  exact call_list_of pins s σ H xs us Q I r ⟨p, ys, e, hq, fun l n => q.at n⟩
noncomputable def rSlN (K : PySem.W.Frag) : V → Option Int → Option Int → Hp → VK → Prop := fun x lo hi H Q => ∃ a xs, x = .ref a ∧ SqL K H a xs ∧ New H (.lst (cutV xs lo hi)) Q
theorem sl_listN : SlR X (rSlN X.K) := by
  intro pins s σ H x v vl vu lo hi sl Q I rx hs pl pu h
  obtain ⟨a, xs, e, hx, q⟩ := h
  exact sl_list pins s σ H x v vl vu lo hi sl Q I rx hs pl pu ⟨a, xs, e, hx, fun p n => q.at n⟩
noncomputable def tDictN : TE := fun _ H Q => New H (.dK []) Q
theorem pe_dictN {pos : Pos} : PE X (.Dict [] [] pos) tDictN := fun pins s σ H Q I h => pe_dnewK pins s σ H Q I fun p n => h.at n
end
end L3
namespace L3
open PySem PySem.Spec PyProof.Rows L2
inductive D where
  | non | bl (b : Bool) | int (i : Int) | str (x : Str) | tup (xs : List D) | lst (xs : List D) | emp
mutual
noncomputable def D.dep : D → Nat
  | .tup xs => deps xs + 1
  | .lst xs => deps xs + 1
  | _ => 0
noncomputable def deps : List D → Nat
  | [] => 0
  | x :: r => max x.dep (deps r)
end
mutual
/-- what == tells -/
noncomputable def D.eqv : D → D → Bool
  | .non, .non => true
  | .bl a, .bl b => a == b
  | .bl a, .int j => (if a then 1 else 0) == j
  | .int i, .bl b => i == (if b then 1 else 0)
  | .int i, .int j => i == j
  | .str x, .str y => x == y
  | .tup xs, .tup ys => eqvs xs ys
  | .lst xs, .lst ys => eqvs xs ys
  | .emp, .emp => true
  | _, _ => false
noncomputable def eqvs : List D → List D → Bool
  | [], [] => true
  | x :: r, y :: q => x.eqv y && eqvs r q
  | _, _ => false
end
mutual
theorem D.eqv_refl : ∀ d : D, d.eqv d = true
  | .non => rfl
  | .bl b => by simp [D.eqv]
  | .int i => by simp [D.eqv]
  | .str x => by simp [D.eqv]
  | .tup xs => by rw [D.eqv]; exact eqvs_refl xs
  | .lst xs => by rw [D.eqv]; exact eqvs_refl xs
  | .emp => rfl
theorem eqvs_refl : ∀ xs : List D, eqvs xs xs = true
  | [] => rfl
  | x :: r => by rw [eqvs, D.eqv_refl x, eqvs_refl r]; rfl
end
mutual
/-- no bool and no dict in it -/
noncomputable def D.pure : D → Bool
  | .bl _ => false
  | .emp => false
  | .tup xs => pures xs
  | .lst xs => pures xs
  | _ => true
noncomputable def pures : List D → Bool
  | [] => true
  | x :: r => x.pure && pures r
end
mutual
theorem D.eqv_iff : ∀ d e : D, d.pure = true → e.pure = true → d.eqv e = true → d = e
  | .non, e, _, pe, h => by cases e <;> simp_all [D.eqv]
  | .bl b, e, pd, _, _ => by simp [D.pure] at pd
  | .int i, e, _, pe, h => by cases e <;> simp_all [D.eqv, D.pure]
  | .str x, e, _, pe, h => by cases e <;> simp_all [D.eqv]
  | .tup xs, e, pd, pe, h => by
    cases e with
    | tup ys => rw [D.eqv] at h; rw [D.pure] at pd pe; rw [eqvs_iff xs ys pd pe h]
    | _ => simp [D.eqv] at h
  | .lst xs, e, pd, pe, h => by
    cases e with
    | lst ys => rw [D.eqv] at h; rw [D.pure] at pd pe; rw [eqvs_iff xs ys pd pe h]
    | _ => simp [D.eqv] at h
  | .emp, e, _, pe, h => by cases e <;> simp_all [D.eqv]
theorem eqvs_iff : ∀ xs ys : List D, pures xs = true → pures ys = true → eqvs xs ys = true → xs = ys
  | [], ys, _, _, h => by cases ys <;> simp_all [eqvs]
  | x :: r, [], _, _, h => by simp [eqvs] at h
  | x :: r, y :: q, px, py, h => by
    rw [pures, Bool.and_eq_true] at px py
    rw [eqvs, Bool.and_eq_true] at h
    rw [D.eqv_iff x y px.1 py.1 h.1, eqvs_iff r q px.2 py.2 h.2]
end
theorem eqv_ne {d e : D} (pd : d.pure = true) (pe : e.pure = true) (h : d ≠ e) : d.eqv e = false := by
  cases q : d.eqv e with
  | false => rfl
  | true => exact absurd (D.eqv_iff d e pd pe q) h
mutual
inductive Rep (H : Hp) : V → D → Prop
  | non : Rep H .non .non
  | bl (b : Bool) : Rep H (.bl b) (.bl b)
  | int (i : Int) : Rep H (.int i) (.int i)
  | str (x : Str) : Rep H (.str x) (.str x)
  | tup {a : Addr} {vs : List V} {xs : List D} : H a = some (.tup vs) → Reps H vs xs → Rep H (.ref a) (.tup xs)
  | lst {a : Addr} {vs : List V} {xs : List D} : H a = some (.lst vs) → Reps H vs xs → Rep H (.ref a) (.lst xs)
  | emp {a : Addr} : H a = some (.dK []) → Rep H (.ref a) .emp
inductive Reps (H : Hp) : List V → List D → Prop
  | nil : Reps H [] []
  | cons {v : V} {d : D} {vs : List V} {ds : List D} : Rep H v d → Reps H vs ds → Reps H (v :: vs) (d :: ds)
end
mutual
theorem Rep.mono {H H' : Hp} {v : V} {d : D} : Rep H v d → Same H H' → Rep H' v d
  | .non, _ => .non
  | .bl b, _ => .bl b
  | .int i, _ => .int i
  | .str x, _ => .str x
  | .tup e r, s => .tup (s _ _ e) (r.mono s)
  | .lst e r, s => .lst (s _ _ e) (r.mono s)
  | .emp e, s => .emp (s _ _ e)
theorem Reps.mono {H H' : Hp} {vs : List V} {ds : List D} : Reps H vs ds → Same H H' → Reps H' vs ds
  | .nil, _ => .nil
  | .cons h r, s => .cons (h.mono s) (r.mono s)
end
theorem Reps.length {H : Hp} : ∀ {vs : List V} {ds : List D}, Reps H vs ds → vs.length = ds.length
  | _, _, .nil => rfl
  | _, _, .cons _ r => by rw [List.length_cons, List.length_cons, r.length]
theorem Reps.get {H : Hp} : ∀ {vs : List V} {ds : List D} {i : Nat} {v : V}, Reps H vs ds → vs[i]? = some v → ∃ d, ds[i]? = some d ∧ Rep H v d
  | _, _, i, v, .nil, e => by simp at e
  | _, _, 0, v, .cons h r, e => by simp at e; subst e; exact ⟨_, rfl, h⟩
  | _, _, i + 1, v, .cons h r, e => by
    obtain ⟨d, h1, h2⟩ := r.get (i := i) (v := v) (by simpa using e)
    exact ⟨d, by simpa using h1, h2⟩
theorem Reps.append {H : Hp} : ∀ {vs ws : List V} {ds es : List D}, Reps H vs ds → Reps H ws es → Reps H (vs ++ ws) (ds ++ es)
  | _, _, _, _, .nil, s => s
  | _, _, _, _, .cons h r, s => .cons h (r.append s)
theorem Reps.ints {H : Hp} : ∀ ns : List Int, Reps H (ns.map V.int) (ns.map D.int)
  | [] => .nil
  | n :: r => .cons (.int n) (Reps.ints r)
noncomputable def rm (p : Addr) (H : Hp) : Hp := fun b => if b = p then none else H b
theorem rm_self {p : Addr} {H : Hp} : rm p H p = none := by unfold rm; rw [if_pos rfl]
theorem rm_ne {p b : Addr} {H : Hp} (h : b ≠ p) : rm p H b = H b := by unfold rm; rw [if_neg h]
theorem rm_same {p : Addr} {H : Hp} : Same (rm p H) H := fun b o e => by
  by_cases h : b = p
  · rw [h, rm_self] at e; cases e
  · rwa [rm_ne h] at e
theorem rm_mono {p : Addr} {H H' : Hp} (s : Same (rm p H) H') : Same (rm p H) (rm p H') := fun b o e => by
  by_cases h : b = p
  · rw [h, rm_self] at e; cases e
  · rw [rm_ne h]; exact s b o e
theorem rm_of {p : Addr} {H H' : Hp} (s : Same H H') (n : H p = none) : Same H (rm p H') := fun b o e => by
  rw [rm_ne (ne_of_none e n)]; exact s b o e
section
variable {X : Cx} {pins : List (Addr × Obj)} {σ : St} {H : Hp} {s : Shared}
theorem get_toArray {us : List Value} {j : Nat} (h : j < us.toArray.size) {v : Value} (e : us[j]? = some v) : us.toArray[j] = v := by
  obtain ⟨h', q⟩ := List.getElem?_eq_some_iff.mp e
  simpa using q
theorem range_all_eqvs (f : Nat → Bool) : ∀ (xs ys : List D), xs.length = ys.length → (∀ (j : Nat) x y, xs[j]? = some x → ys[j]? = some y → f j = x.eqv y) → (List.range xs.length).all f = eqvs xs ys := by
  intro xs
  induction xs generalizing f with
  | nil => intro ys hl _; cases ys with
    | nil => rfl
    | cons _ _ => simp at hl
  | cons x r ih =>
    intro ys hl h
    cases ys with
    | nil => simp at hl
    | cons y q =>
      rw [List.length_cons, List.range_succ_eq_map, List.all_cons, List.all_map, eqvs, h 0 x y rfl rfl]
      congr 1
      exact ih (fun j => f (j + 1)) q (by simpa using hl) fun j x' y' e1 e2 => h (j + 1) x' y' (by simpa using e1) (by simpa using e2)
theorem eqvs_len : ∀ (xs ys : List D), xs.length ≠ ys.length → eqvs xs ys = false
  | [], [], h => absurd rfl h
  | [], _ :: _, _ => rfl
  | _ :: _, [], _ => rfl
  | x :: r, y :: q, h => by rw [eqvs, eqvs_len r q (by simpa using h), Bool.and_false]
noncomputable def ansAt (xs ys : List D) (j : Nat) : Bool := match xs[j]?, ys[j]? with
  | some x, some y => x.eqv y
  | _, _ => true
theorem range_min_eqvs (xs ys : List D) : ((List.range (min xs.length ys.length)).all (ansAt xs ys) && xs.length == ys.length) = eqvs xs ys := by
  by_cases h : xs.length = ys.length
  · rw [← h, Nat.min_self, beq_self_eq_true, Bool.and_true]
    refine range_all_eqvs _ xs ys h fun j x y e1 e2 => ?_
    unfold ansAt; rw [e1, e2]
  · rw [eqvs_len xs ys h, beq_eq_false_iff_ne.mpr h, Bool.and_false]
theorem IsTup.isT {h : Heap} {a : Addr} {its : Array Value} (t : IsTup h a its) : h.IsTuple a its := by
  first
  | exact t
  | (obtain ⟨o, e, c, n, d⟩ := t; exact ⟨o, e, c, n, d⟩)
  | (obtain ⟨o, e, c, n, d, _⟩ := t; exact ⟨o, e, c, n, d⟩)
mutual
theorem Rep.inj {H : Hp} {v : V} {d e : D} : Rep H v d → Rep H v e → d = e
  | .non, h => by cases h; rfl
  | .bl _, h => by cases h; rfl
  | .int _, h => by cases h; rfl
  | .str _, h => by cases h; rfl
  | .tup e r, h => by
    cases h with
    | tup e' r' => rw [e] at e'; cases e'; rw [r.inj r']
    | lst e' r' => rw [e] at e'; cases e'
    | emp e' => rw [e] at e'; cases e'
  | .lst e r, h => by
    cases h with
    | tup e' r' => rw [e] at e'; cases e'
    | lst e' r' => rw [e] at e'; cases e'; rw [r.inj r']
    | emp e' => rw [e] at e'; cases e'
  | .emp e, h => by
    cases h with
    | tup e' r' => rw [e] at e'; cases e'
    | lst e' r' => rw [e] at e'; cases e'
    | emp e' => rfl
theorem Reps.inj {H : Hp} {vs : List V} {ds es : List D} : Reps H vs ds → Reps H vs es → ds = es
  | .nil, h => by cases h; rfl
  | .cons h r, g => by
    cases g with
    | cons h' r' => rw [h.inj h', r.inj r']
end
theorem dep_get : ∀ {xs : List D} {j : Nat} {x : D}, xs[j]? = some x → x.dep ≤ deps xs
  | [], j, x, e => by simp at e
  | y :: r, 0, x, e => by simp at e; subst e; rw [deps]; (first | lia | omega)
  | y :: r, j + 1, x, e => by
    have := dep_get (xs := r) (j := j) (x := x) (by simpa using e)
    rw [deps]; (first | lia | omega)
theorem pure_get : ∀ {xs : List D} {j : Nat} {x : D}, pures xs = true → xs[j]? = some x → x.pure = true
  | [], j, x, _, e => by simp at e
  | y :: r, 0, x, h, e => by simp at e; subst e; rw [pures, Bool.and_eq_true] at h; exact h.1
  | y :: r, j + 1, x, h, e => by rw [pures, Bool.and_eq_true] at h; exact pure_get (j := j) h.2 (by simpa using e)
theorem tupAt {P : Program} {w : World} (hok : HOk P w H s.heap) {a : Addr} {vs : List V} (e : H a = some (.tup vs)) : ∃ its : List Value, Vals vs its ∧ s.heap.IsTuple a its.toArray := by
  obtain ⟨_, its, r, t⟩ := hok a _ e
  exact ⟨its, r, IsTup.isT t⟩
theorem lstAt {P : Program} {w : World} (hok : HOk P w H s.heap) {a : Addr} {vs : List V} (e : H a = some (.lst vs)) : ∃ its : List Value, Vals vs its ∧ s.heap.IsList a its.toArray := by
  obtain ⟨_, its, n, r, t⟩ := hok a _ e
  exact ⟨its, r, _, t, rfl, n, rfl⟩
theorem items_ans {A : Around} {vs ws : List V} {xs ys : List D} {us zs : List Value} (rx : Reps H vs xs) (ry : Reps H ws ys) (qx : Vals vs us) (qy : Vals ws zs)
    (ih : ∀ (j : Nat) x y v w u z, xs[j]? = some x → ys[j]? = some y → Rep H v x → Rep H w y → RelV v u → RelV w z → SeqAt.EqAt A s u z (x.eqv y)) :
    ∀ j (h1 : j < us.toArray.size) (h2 : j < zs.toArray.size), SeqAt.EqAt A s us.toArray[j] zs.toArray[j] (ansAt xs ys j) := fun j h1 h2 => by
  have l1 := qx.length
  have l2 := qy.length
  rw [List.size_toArray] at h1 h2
  have g1 : vs[j]? = some (vs[j]'(by (first | lia | omega))) := List.getElem?_eq_getElem (by (first | lia | omega))
  have g2 : ws[j]? = some (ws[j]'(by (first | lia | omega))) := List.getElem?_eq_getElem (by (first | lia | omega))
  obtain ⟨u, hu, ru⟩ := qx.get g1
  obtain ⟨z, hz, rz⟩ := qy.get g2
  obtain ⟨x, hx, px⟩ := rx.get g1
  obtain ⟨y, hy, py⟩ := ry.get g2
  rw [get_toArray _ hu, get_toArray _ hz]
  unfold ansAt
  rw [hx, hy]
  exact ih j x y _ _ u z hx hy px py ru rz
theorem in1_units (A : Around) : A.in1.units = A.units + 1 := rfl
theorem eqAt_n {P : Program} {w : World} (hok : HOk P w H s.heap) : ∀ (n : Nat) (A : Around) {v w : V} {d e : D} {u z : Value}, d.dep ≤ n → Rep H v d → Rep H w e → RelV v u → RelV w z → d.pure = true → e.pure = true → A.units + n < cLine →
    SeqAt.EqAt A s u z (d.eqv e) := by
  intro n
  induction n with
  | zero =>
    intro A v w d e u z hd rd re ru rz pd pe hu
    cases rd with
    | bl _ => simp [D.pure] at pd
    | emp _ => simp [D.pure] at pd
    | tup _ _ => simp [D.dep] at hd
    | lst _ _ => simp [D.dep] at hd
    | non =>
      cases ru
      cases re with
      | bl _ => simp [D.pure] at pe
      | emp _ => simp [D.pure] at pe
      | non => cases rz; exact SeqAt.EqAt.same .none
      | int j => obtain ⟨t, rfl⟩ := rz; exact SeqAt.EqAt.none_int j t
      | str y => obtain ⟨t, rfl⟩ := rz; exact SeqAt.EqAt.none_str y t
      | tup ea _ => cases rz; obtain ⟨its, _, ht⟩ := tupAt hok ea; exact SeqAt.EqAt.none_tuple ht (by (first | lia | omega))
      | lst ea _ => cases rz; obtain ⟨its, _, ht⟩ := lstAt hok ea; exact SeqAt.EqAt.none_list ht (by (first | lia | omega))
    | int i =>
      obtain ⟨t, rfl⟩ := ru
      cases re with
      | bl _ => simp [D.pure] at pe
      | emp _ => simp [D.pure] at pe
      | non => cases rz; exact SeqAt.EqAt.int_none i t
      | int j => obtain ⟨t', rfl⟩ := rz; exact SeqAt.EqAt.int_int i t j t'
      | str y => obtain ⟨t', rfl⟩ := rz; exact SeqAt.EqAt.int_str i t y t'
      | tup ea _ => cases rz; obtain ⟨its, _, ht⟩ := tupAt hok ea; exact SeqAt.EqAt.int_tuple i t ht (by (first | lia | omega))
      | lst ea _ => cases rz; obtain ⟨its, _, ht⟩ := lstAt hok ea; exact SeqAt.EqAt.int_list i t ht (by (first | lia | omega))
    | str x =>
      obtain ⟨t, rfl⟩ := ru
      cases re with
      | bl _ => simp [D.pure] at pe
      | emp _ => simp [D.pure] at pe
      | non => cases rz; exact SeqAt.EqAt.str_none x t
      | int j => obtain ⟨t', rfl⟩ := rz; exact SeqAt.EqAt.str_int x t j t'
      | str y => obtain ⟨t', rfl⟩ := rz; exact SeqAt.EqAt.str_str x t y t'
      | tup ea _ => cases rz; obtain ⟨its, _, ht⟩ := tupAt hok ea; exact SeqAt.EqAt.str_tuple x t ht (by (first | lia | omega))
      | lst ea _ => cases rz; obtain ⟨its, _, ht⟩ := lstAt hok ea; exact SeqAt.EqAt.str_list x t ht (by (first | lia | omega))
  | succ n ih =>
    intro A v w d e u z hd rd re ru rz pd pe hu
    by_cases h0 : d.dep ≤ n
    · exact ih A h0 rd re ru rz pd pe (by (first | lia | omega))
    · have ihn : ∀ {xs ys : List D}, deps xs ≤ n → pures xs = true → pures ys = true → ∀ (j : Nat) x y v w u z, xs[j]? = some x → ys[j]? = some y → Rep H v x → Rep H w y → RelV v u → RelV w z → SeqAt.EqAt A.in1 s u z (x.eqv y) :=
        fun {xs ys} hx px py j x y v w u z e1 e2 r1 r2 q1 q2 => ih A.in1 (Nat.le_trans (dep_get e1) hx) r1 r2 q1 q2 (pure_get px e1) (pure_get py e2) (by rw [in1_units]; (first | lia | omega))
      cases rd with
      | non => simp [D.dep] at h0
      | bl _ => simp [D.dep] at h0
      | int _ => simp [D.dep] at h0
      | str _ => simp [D.dep] at h0
      | emp _ => simp [D.dep] at h0
      | @tup a vs xs ea rs =>
        cases ru
        obtain ⟨its, qi, hi⟩ := tupAt hok ea
        rw [D.dep] at hd
        rw [D.pure] at pd
        cases re with
        | bl _ => simp [D.pure] at pe
        | emp _ => simp [D.pure] at pe
        | non => cases rz; exact SeqAt.EqAt.tuple_none hi (by (first | lia | omega))
        | int j => obtain ⟨t', rfl⟩ := rz; exact SeqAt.EqAt.tuple_int j t' hi (by (first | lia | omega))
        | str y => obtain ⟨t', rfl⟩ := rz; exact SeqAt.EqAt.tuple_str y t' hi (by (first | lia | omega))
        | lst eb _ => cases rz; obtain ⟨its2, _, ht⟩ := lstAt hok eb; exact SeqAt.EqAt.tuple_list hi ht (by (first | lia | omega))
        | @tup b ws ys eb rs2 =>
          cases rz
          rw [D.pure] at pe
          by_cases hab : a = b
          · subst hab
            rw [ea] at eb; cases eb
            rw [rs.inj rs2, D.eqv_refl]
            exact SeqAt.EqAt.same _
          · obtain ⟨its2, qj, hj⟩ := tupAt hok eb
            refine SeqAt.EqAt.of_refs hab ?_
            have q := SeqAt.RcAt.tuples (A := A) hi hj (by (first | lia | omega)) (e := ansAt xs ys) (items_ans rs rs2 qi qj (ihn (by (first | lia | omega)) pd pe))
            have l1 := qi.length
            have l2 := qj.length
            rw [List.size_toArray, List.size_toArray, ← l1, ← l2, rs.length, rs2.length, range_min_eqvs] at q
            rw [D.eqv]; exact q
      | @lst a vs xs ea rs =>
        cases ru
        obtain ⟨its, qi, hi⟩ := lstAt hok ea
        rw [D.dep] at hd
        rw [D.pure] at pd
        cases re with
        | bl _ => simp [D.pure] at pe
        | emp _ => simp [D.pure] at pe
        | non => cases rz; exact SeqAt.EqAt.list_none hi (by (first | lia | omega))
        | int j => obtain ⟨t', rfl⟩ := rz; exact SeqAt.EqAt.list_int j t' hi (by (first | lia | omega))
        | str y => obtain ⟨t', rfl⟩ := rz; exact SeqAt.EqAt.list_str y t' hi (by (first | lia | omega))
        | tup eb _ => cases rz; obtain ⟨its2, _, ht⟩ := tupAt hok eb; exact SeqAt.EqAt.list_tuple hi ht (by (first | lia | omega))
        | @lst b ws ys eb rs2 =>
          cases rz
          rw [D.pure] at pe
          by_cases hab : a = b
          · subst hab
            rw [ea] at eb; cases eb
            rw [rs.inj rs2, D.eqv_refl]
            exact SeqAt.EqAt.same _
          · obtain ⟨its2, qj, hj⟩ := lstAt hok eb
            refine SeqAt.EqAt.of_refs hab ?_
            have l1 := qi.length
            have l2 := qj.length
            have l3 := rs.length
            have l4 := rs2.length
            by_cases hl : xs.length = ys.length
            · have q := SeqAt.RcAt.lists (A := A) hi hj (by rw [List.size_toArray, List.size_toArray]; (first | lia | omega)) (by (first | lia | omega)) (e := ansAt xs ys) (items_ans rs rs2 qi qj (ihn (by (first | lia | omega)) pd pe))
              have e1 : its.toArray.size = xs.length := by rw [List.size_toArray]; (first | lia | omega)
              rw [e1, range_all_eqvs (ansAt xs ys) xs ys hl fun j x y e1 e2 => by unfold ansAt; rw [e1, e2]] at q
              rw [D.eqv]; exact q
            · rw [D.eqv, eqvs_len xs ys hl]
              exact SeqAt.RcAt.lists_lengths hi hj (by rw [List.size_toArray, List.size_toArray]; simp; (first | lia | omega)) (by (first | lia | omega))
end
section
variable {X : Cx} {pins : List (Addr × Obj)} {σ : St} {H : Hp} {s : Shared}
theorem rcAt_rep {P : Program} {w : World} (hok : HOk P w H s.heap) (n : Nat) (A : Around) {v w : V} {d e : D} {u z : Value} (hd : d.dep ≤ n) (rd : Rep H v d) (re : Rep H w e) (ru : RelV v u) (rz : RelV w z) (pd : d.pure = true) (pe : e.pure = true) (hu : A.units + n < cLine) :
    SeqAt.RcAt A s u z (d.eqv e) ∧ SeqAt.RcNeAt A s u z (!(d.eqv e)) := by
  have ihn : ∀ {xs ys : List D}, deps xs + 1 ≤ n → pures xs = true → pures ys = true → ∀ (j : Nat) x y v w u z, xs[j]? = some x → ys[j]? = some y → Rep H v x → Rep H w y → RelV v u → RelV w z → SeqAt.EqAt A.in1 s u z (x.eqv y) :=
    fun {xs ys} hx px py j x y v w u z e1 e2 r1 r2 q1 q2 => eqAt_n hok (n - 1) A.in1 (Nat.le_trans (dep_get e1) (by (first | lia | omega))) r1 r2 q1 q2 (pure_get px e1) (pure_get py e2) (by rw [in1_units]; (first | lia | omega))
  cases rd with
  | bl _ => simp [D.pure] at pd
  | emp _ => simp [D.pure] at pd
  | non =>
    cases ru
    cases re with
    | bl _ => simp [D.pure] at pe
    | emp _ => simp [D.pure] at pe
    | non => cases rz; exact ⟨SeqAt.RcAt.none_none, SeqAt.RcNeAt.none_none⟩
    | int j => obtain ⟨t, rfl⟩ := rz; exact ⟨SeqAt.RcAt.none_int j t, SeqAt.RcNeAt.none_int j t⟩
    | str y => obtain ⟨t, rfl⟩ := rz; exact ⟨SeqAt.RcAt.none_str y t, SeqAt.RcNeAt.none_str y t⟩
    | tup ea _ => cases rz; obtain ⟨its, _, ht⟩ := tupAt hok ea; exact ⟨SeqAt.RcAt.none_tuple ht (by (first | lia | omega)), SeqAt.RcNeAt.none_tuple ht (by (first | lia | omega))⟩
    | lst ea _ => cases rz; obtain ⟨its, _, ht⟩ := lstAt hok ea; exact ⟨SeqAt.RcAt.none_list ht (by (first | lia | omega)), SeqAt.RcNeAt.none_list ht (by (first | lia | omega))⟩
  | int i =>
    obtain ⟨t, rfl⟩ := ru
    cases re with
    | bl _ => simp [D.pure] at pe
    | emp _ => simp [D.pure] at pe
    | non => cases rz; exact ⟨SeqAt.RcAt.int_none i t, SeqAt.RcNeAt.int_none i t⟩
    | int j => obtain ⟨t', rfl⟩ := rz; exact ⟨SeqAt.RcAt.int_int i t j t', SeqAt.RcNeAt.int_int i t j t'⟩
    | str y => obtain ⟨t', rfl⟩ := rz; exact ⟨SeqAt.RcAt.int_str i t y t', SeqAt.RcNeAt.int_str i t y t'⟩
    | tup ea _ => cases rz; obtain ⟨its, _, ht⟩ := tupAt hok ea; exact ⟨SeqAt.RcAt.int_tuple i t ht (by (first | lia | omega)), SeqAt.RcNeAt.int_tuple i t ht (by (first | lia | omega))⟩
    | lst ea _ => cases rz; obtain ⟨its, _, ht⟩ := lstAt hok ea; exact ⟨SeqAt.RcAt.int_list i t ht (by (first | lia | omega)), SeqAt.RcNeAt.int_list i t ht (by (first | lia | omega))⟩
  | str x =>
    obtain ⟨t, rfl⟩ := ru
    cases re with
    | bl _ => simp [D.pure] at pe
    | emp _ => simp [D.pure] at pe
    | non => cases rz; exact ⟨SeqAt.RcAt.str_none x t, SeqAt.RcNeAt.str_none x t⟩
    | int j => obtain ⟨t', rfl⟩ := rz; exact ⟨SeqAt.RcAt.str_int x t j t', SeqAt.RcNeAt.str_int x t j t'⟩
    | str y => obtain ⟨t', rfl⟩ := rz; exact ⟨SeqAt.RcAt.str_str x t y t', SeqAt.RcNeAt.str_str x t y t'⟩
    | tup ea _ => cases rz; obtain ⟨its, _, ht⟩ := tupAt hok ea; exact ⟨SeqAt.RcAt.str_tuple x t ht (by (first | lia | omega)), SeqAt.RcNeAt.str_tuple x t ht (by (first | lia | omega))⟩
    | lst ea _ => cases rz; obtain ⟨its, _, ht⟩ := lstAt hok ea; exact ⟨SeqAt.RcAt.str_list x t ht (by (first | lia | omega)), SeqAt.RcNeAt.str_list x t ht (by (first | lia | omega))⟩
  | @tup a vs xs ea rs =>
    cases ru
    obtain ⟨its, qi, hi⟩ := tupAt hok ea
    rw [D.dep] at hd
    rw [D.pure] at pd
    cases re with
    | bl _ => simp [D.pure] at pe
    | emp _ => simp [D.pure] at pe
    | non => cases rz; exact ⟨SeqAt.RcAt.tuple_none hi (by (first | lia | omega)), SeqAt.RcNeAt.tuple_none hi (by (first | lia | omega))⟩
    | int j => obtain ⟨t', rfl⟩ := rz; exact ⟨SeqAt.RcAt.tuple_int j t' hi (by (first | lia | omega)), SeqAt.RcNeAt.tuple_int j t' hi (by (first | lia | omega))⟩
    | str y => obtain ⟨t', rfl⟩ := rz; exact ⟨SeqAt.RcAt.tuple_str y t' hi (by (first | lia | omega)), SeqAt.RcNeAt.tuple_str y t' hi (by (first | lia | omega))⟩
    | lst eb _ => cases rz; obtain ⟨its2, _, ht⟩ := lstAt hok eb; exact ⟨SeqAt.RcAt.tuple_list hi ht (by (first | lia | omega)), SeqAt.RcNeAt.tuple_list hi ht (by (first | lia | omega))⟩
    | @tup b ws ys eb rs2 =>
      cases rz
      rw [D.pure] at pe
      obtain ⟨its2, qj, hj⟩ := tupAt hok eb
      have l1 := qi.length
      have l2 := qj.length
      have q := SeqAt.RcAt.tuples (A := A) hi hj (by (first | lia | omega)) (e := ansAt xs ys) (items_ans rs rs2 qi qj (ihn hd pd pe))
      have q' := SeqAt.RcNeAt.tuples (A := A) hi hj (by (first | lia | omega)) (e := ansAt xs ys) (items_ans rs rs2 qi qj (ihn hd pd pe))
      rw [List.size_toArray, List.size_toArray, ← l1, ← l2, rs.length, rs2.length, range_min_eqvs] at q q'
      rw [D.eqv]; exact ⟨q, q'⟩
  | @lst a vs xs ea rs =>
    cases ru
    obtain ⟨its, qi, hi⟩ := lstAt hok ea
    rw [D.dep] at hd
    rw [D.pure] at pd
    cases re with
    | bl _ => simp [D.pure] at pe
    | emp _ => simp [D.pure] at pe
    | non => cases rz; exact ⟨SeqAt.RcAt.list_none hi (by (first | lia | omega)), SeqAt.RcNeAt.list_none hi (by (first | lia | omega))⟩
    | int j => obtain ⟨t', rfl⟩ := rz; exact ⟨SeqAt.RcAt.list_int j t' hi (by (first | lia | omega)), SeqAt.RcNeAt.list_int j t' hi (by (first | lia | omega))⟩
    | str y => obtain ⟨t', rfl⟩ := rz; exact ⟨SeqAt.RcAt.list_str y t' hi (by (first | lia | omega)), SeqAt.RcNeAt.list_str y t' hi (by (first | lia | omega))⟩
    | tup eb _ => cases rz; obtain ⟨its2, _, ht⟩ := tupAt hok eb; exact ⟨SeqAt.RcAt.list_tuple hi ht (by (first | lia | omega)), SeqAt.RcNeAt.list_tuple hi ht (by (first | lia | omega))⟩
    | @lst b ws ys eb rs2 =>
      cases rz
      rw [D.pure] at pe
      obtain ⟨its2, qj, hj⟩ := lstAt hok eb
      have l1 := qi.length
      have l2 := qj.length
      have l3 := rs.length
      have l4 := rs2.length
      by_cases hl : xs.length = ys.length
      · have sz : its.toArray.size = its2.toArray.size := by rw [List.size_toArray, List.size_toArray]; (first | lia | omega)
        have q := SeqAt.RcAt.lists (A := A) hi hj sz (by (first | lia | omega)) (e := ansAt xs ys) (items_ans rs rs2 qi qj (ihn hd pd pe))
        have q' := SeqAt.RcNeAt.lists (A := A) hi hj sz (by (first | lia | omega)) (e := ansAt xs ys) (items_ans rs rs2 qi qj (ihn hd pd pe))
        have e1 : its.toArray.size = xs.length := by rw [List.size_toArray]; (first | lia | omega)
        rw [e1, range_all_eqvs (ansAt xs ys) xs ys hl fun j x y e1 e2 => by unfold ansAt; rw [e1, e2]] at q q'
        rw [D.eqv]; exact ⟨q, q'⟩
      · rw [D.eqv, eqvs_len xs ys hl]
        have sz : (its.toArray.size != its2.toArray.size) = true := by rw [List.size_toArray, List.size_toArray]; simp; (first | lia | omega)
        exact ⟨SeqAt.RcAt.lists_lengths hi hj sz (by (first | lia | omega)), SeqAt.RcNeAt.lists_lengths hi hj sz (by (first | lia | omega))⟩
noncomputable def rEqD (n : Nat) : R2 := fun x y H Q => ∃ d e, Rep H x d ∧ Rep H y e ∧ d.pure = true ∧ e.pure = true ∧ d.dep ≤ n ∧ Q (.bl (d.eqv e)) H
noncomputable def rNeD (n : Nat) : R2 := fun x y H Q => ∃ d e, Rep H x d ∧ Rep H y e ∧ d.pure = true ∧ e.pure = true ∧ d.dep ≤ n ∧ Q (.bl (!(d.eqv e))) H
theorem op_eqD {n : Nat} (hu : X.A.units + n < cLine) : OpR X (compareOp .Eq) (rEqD n) := by
  intro pins s σ H x y v u Q I rx ry h
  obtain ⟨d, e, rd, re, pd, pe, hd, q⟩ := h
  exact (rcAt_rep I.hok n X.A hd rd re rx ry pd pe hu).1 X.prog X.w X.xe _ ⟨.bl _, H, I, rfl, q⟩
theorem op_neD {n : Nat} (hu : X.A.units + n < cLine) : OpR X (compareOp .NotEq) (rNeD n) := by
  intro pins s σ H x y v u Q I rx ry h
  obtain ⟨d, e, rd, re, pd, pe, hd, q⟩ := h
  exact (rcAt_rep I.hok n X.A hd rd re rx ry pd pe hu).2 X.prog X.w X.xe _ ⟨.bl _, H, I, rfl, q⟩
end
end L3
namespace L3
open PySem PySem.Spec PyProof.Rows L2
section
variable {X : Cx}
noncomputable def rAddG : R2 := fun x y H Q => match x, y with
  | .int i, .int j => Q (.int (i + j)) H
  | .str a, .str b => a.length + b.length ≤ sizeLine ∧ Q (.str (a ++ b)) H
  | .ref a, .ref b => ∃ xs zs, H a = some (.lst xs) ∧ H b = some (.lst zs) ∧ xs.length + zs.length ≤ sizeLine ∧ New H (.lst (xs ++ zs)) Q
  | _, _ => False
theorem op_addG : OpR X (binaryOp .Add) rAddG := by
  intro pins s σ H x y v u Q I rx ry q
  cases x <;> cases y <;> first
    | exact False.elim q
    | exact op_add pins s σ H _ _ v u Q I rx ry ⟨_, _, rfl, rfl, q⟩
    | exact op_add_str pins s σ H _ _ v u Q I rx ry ⟨_, _, rfl, rfl, q.1, q.2⟩
    | (obtain ⟨xs, zs, h1, h2, h3, h4⟩ := q; exact op_cat pins s σ H _ _ v u Q I rx ry ⟨_, _, xs, zs, rfl, rfl, h1, h2, h3, fun p n => h4.at n⟩)
noncomputable def rEqG (n : Nat) : R2 := fun x y H Q => match x, y with
  | .int i, .int j => Q (.bl (decide (i = j))) H
  | .bl a, .bl b => Q (.bl (decide (a = b))) H
  | .str a, .str b => Q (.bl (decide (a = b))) H
  | x, y => rEqD n x y H Q
noncomputable def rNeG (n : Nat) : R2 := fun x y H Q => match x, y with
  | .int i, .int j => Q (.bl (!decide (i = j))) H
  | .bl a, .bl b => Q (.bl (!decide (a = b))) H
  | .str a, .str b => Q (.bl (!decide (a = b))) H
  | x, y => rNeD n x y H Q
theorem decI {i j : Int} : decide (V.int i = V.int j) = decide (i = j) := by simp
theorem decB {i j : Bool} : decide (V.bl i = V.bl j) = decide (i = j) := by simp
theorem decS {i j : Str} : decide (V.str i = V.str j) = decide (i = j) := by simp
theorem op_eqG {n : Nat} (hu : X.A.units + n < cLine) : OpR X (compareOp .Eq) (rEqG n) := by
  intro pins s σ H x y v u Q I rx ry q
  cases x <;> cases y <;> first
    | exact op_eqD hu pins s σ H _ _ v u Q I rx ry q
    | (refine op_eq pins s σ H _ _ v u Q I rx ry ⟨rfl, ?_⟩; rw [decI]; exact q)
    | (refine op_eq pins s σ H _ _ v u Q I rx ry ⟨rfl, ?_⟩; rw [decB]; exact q)
    | (refine op_eq pins s σ H _ _ v u Q I rx ry ⟨rfl, ?_⟩; rw [decS]; exact q)
theorem op_neG {n : Nat} (hu : X.A.units + n < cLine) : OpR X (compareOp .NotEq) (rNeG n) := by
  intro pins s σ H x y v u Q I rx ry q
  cases x <;> cases y <;> first
    | exact op_neD hu pins s σ H _ _ v u Q I rx ry q
    | (refine op_ne pins s σ H _ _ v u Q I rx ry ⟨rfl, ?_⟩; rw [decI]; exact q)
    | (refine op_ne pins s σ H _ _ v u Q I rx ry ⟨rfl, ?_⟩; rw [decB]; exact q)
    | (refine op_ne pins s σ H _ _ v u Q I rx ry ⟨rfl, ?_⟩; rw [decS]; exact q)
noncomputable def rIxG (K : PySem.W.Frag) : R2 := fun x y H Q => ∃ p xs i v, x = .ref p ∧ y = .int i ∧ (SqL K H p xs ∨ SqT K H p xs) ∧ atI xs i = some v ∧ Q v H
theorem ix_G : IxR X (rIxG X.K) := by
  intro value slice pins s σ H x y v u Q I rx ry q hs
  obtain ⟨p, xs, i, w, h1, h2, h3 | h3, h4, h5⟩ := q
  · exact ix_list value slice pins s σ H x y v u Q I rx ry ⟨p, xs, i, w, h1, h2, h3, h4, h5⟩ hs
  · exact ix_tup value slice pins s σ H x y v u Q I rx ry ⟨p, xs, i, w, h1, h2, h3, h4, h5⟩ hs
noncomputable def iSeq (K : PySem.W.Frag) (tl : TE) : TI := fun σ H R => tl σ H fun x H1 => ∃ a, x = .ref a ∧ (((∃ xs, SqL K H1 a xs) ∧ R (Itl K a) H1) ∨ ((∃ xs, SqT K H1 a xs) ∧ R (Itt K a) H1))
noncomputable def tAndG (K : PySem.W.Frag) (ta tb : TE) : TE := fun σ H Q => ta σ H fun x H1 => ∃ k, TruV K x H1 k ∧ if k = true then tb σ H1 Q else Q x H1
variable {a b : Expr} {rest : List Expr} {ta tb : TE} {pos : Pos}
theorem pe_andG (ha : PE X a ta) (hb : PE X (.BoolOp .And (b :: rest) pos) tb) : PE X (.BoolOp .And (a :: b :: rest) pos) (tAndG X.K ta tb) := by
  intro pins s σ H Q I h
  refine BoolOp_and (thn (ha pins s σ H _ I h) fun v s1 hh => ?_)
  obtain ⟨x, H1, I1, r1, k, tv, q1⟩ := hh
  refine thn (tru_ok pins s1 σ H1 x v (fun c H2 => H2 = H1 ∧ c = k) I1 r1 ⟨k, tv, rfl, rfl⟩) fun c s2 hh => ?_
  obtain ⟨H2, I2, e1, e2⟩ := hh
  subst e1 e2
  cases c with
  | true => rw [if_pos rfl] at q1; exact hb pins s2 σ H2 Q I2 q1
  | false => rw [if_neg Bool.false_ne_true] at q1; exact ⟨x, H2, I2, r1, q1⟩
end
section
variable {X : Cx} {tg : Expr}
theorem pi_seq {l : Expr} {tl : TE} (hl : PE X l tl) : PI X tg l (iSeq X.K tl) := by
  intro pins s σ H R I h
  refine thn (hl pins s σ H _ I h) fun v s1 hh => ?_
  obtain ⟨x, H1, I1, r1, a, ex, q⟩ := hh
  subst ex
  cases r1
  rcases q with ⟨⟨xs, hx⟩, q⟩ | ⟨⟨xs, hx⟩, q⟩
  · obtain ⟨its, r, p, hz⟩ := I1.list hx
    refine wpAny_pyIter_list p.isList ?_
    refine ⟨s1.heap.objs.size, [s1.heap.objs.size], _, _, H1, rfl, I1.kept (t' := s1.toks) fun b o e => Heap.get?_push_of_some _ e, turn_list a _, ⟨_, Heap.get?_push_size _ rfl, rfl, rfl⟩, fun b hb => ?_, q⟩
    have e : b = s1.heap.objs.size := by simpa using hb
    subst e
    exact I1.fpOk (Nat.le_refl _) I1.fresh
  · obtain ⟨its, r, p, hz⟩ := I1.tuple hx
    refine wpAny_pyIter_tuple (IsTup.isT p) ?_
    refine ⟨s1.heap.objs.size, [s1.heap.objs.size], _, _, H1, rfl, I1.kept (t' := s1.toks) fun b o e => Heap.get?_push_of_some _ e, turn_tuple a _, ⟨_, Heap.get?_push_size _ rfl, rfl, rfl⟩, fun b hb => ?_, q⟩
    have e : b = s1.heap.objs.size := by simpa using hb
    subst e
    exact I1.fpOk (Nat.le_refl _) I1.fresh
noncomputable def Cal (P : Program) (w : World) (K : PySem.W.Frag) (mg : Str → Option Value) (base : Heap) (CX : CXT) (k : Nat) (x : Str) (sp : Sp) : Prop :=
  ∃ f fd ps, FnOk P w K mg base CX k f fd ps sp ∧ mg x = some (.ref f) ∧ PySem.W.keepIn K (.ref f) = true ∧ Binds K fd ps []
noncomputable def tCallF (sp : Sp) (E : XK) (t : TA) : TE := fun σ H Q => t σ H fun vs H1 => sp vs H1 Q E
theorem pe_callF {CX : CXT} {k : Nat} {x : Str} {sp : Sp} {E : XK} {e : Expr} {es : List Expr} {t : TA} {p pos : Pos} (C : Cal X.prog X.w X.K X.mg X.base CX k x sp) (hr : Room k X.A) (hx : Passes CX X E) (hg : Gl X x)
    (ha : PA X (e :: es) t) (hdb : (x == ("__debug__" : Str)) = false := by decide) (he : starEach (e :: es) X.env = (false, eval e X.env) :: starEach es X.env := by rfl) (hpl : (backTo pos (starEach es X.env)).any (·.1) = false := by rfl) :
    PE X (.Call (.Name x p) (e :: es) [] pos) (tCallF sp E t) := by
  obtain ⟨f, fd, ps, F, hm, hk, hb⟩ := C
  have q := pe_call (dvs := []) (ds := []) F hr hg hm hk hb .nil hx ha hdb he hpl (p := p) (pos := pos)
  intro pins s σ H Q I h
  refine q pins s σ H Q I ?_
  show t σ H fun vs H1 => sp (vs ++ []) H1 Q E
  simp only [List.append_nil]
  exact h
theorem Cal.mono {P : Program} {w : World} {K : PySem.W.Frag} {mg : Str → Option Value} {base : Heap} {CX : CXT} {j k : Nat} {x : Str} {sp : Sp} (C : Cal P w K mg base CX j x sp) (h : j ≤ k) : Cal P w K mg base CX k x sp := by
  obtain ⟨f, fd, ps, F, r⟩ := C
  exact ⟨f, fd, ps, F.mono h, r⟩
end
structure Fd (K : PySem.W.Frag) (mg : Str → Option Value) (x : Str) (st : Stmt) (f : Addr) : Prop where
  ex : ∃ fd, Fun K x x st f fd
  at_ : mg x = some (.ref f)
theorem fd_mk {K : PySem.W.Frag} {h : Heap} {mg : Str → Option Value} {x : Str} {st : Stmt} {f : Addr} {oc : Value} {od an : Option Addr} {osl : Array (Option Value)} {kV doc pm cdv ct : Value} (X : K.In h) (G : h.Ns mainGlobals mg)
    (a : PySem.W.nsIn K mainGlobals x = some (some (.ref f))) (l : K.lookup f = some ⟨oc, od, .func (PySem.W.fnOf x x (defArgs st) (defBody st) (defScope st) .none kV doc pm an cdv ct), osl⟩)
    (c : PySem.W.codeIn K cdv x = true) (k : PySem.W.keepIn K (.ref f) = true) : Fd K mg x st f := ⟨⟨_, fun_mk l c k⟩, PySem.W.mg_of X G a⟩
end L3
namespace L3
open PySem PySem.Spec PyProof.Rows L2
theorem hu_n {A : Around} {k : Nat} (hr : Room k A) : A.units + 150 < cLine := by have := hr.un; (first | lia | omega)
theorem atI_mem {α : Type} {xs : List α} {i : Int} (h0 : 0 ≤ i) (h1 : i < xs.length) : ∃ v, atI xs i = some v ∧ v ∈ xs := by
  have hlt : i.toNat < xs.length := by (first | lia | omega)
  refine ⟨xs[i.toNat], ?_, List.getElem_mem hlt⟩
  have e : ((i.toNat : Nat) : Int) = i := by (first | lia | omega)
  have := atI_nat (xs := xs) (j := i.toNat) (v := xs[i.toNat]) (List.getElem?_eq_getElem hlt)
  rw [e] at this
  exact this
theorem atI_ints {ns : List Int} {i : Int} (h0 : 0 ≤ i) (h1 : i < ns.length) : ∃ n, atI (ns.map V.int) i = some (.int n) ∧ n ∈ ns := by
  obtain ⟨v, e, m⟩ := atI_mem (xs := ns.map V.int) h0 (by rw [List.length_map]; exact h1)
  obtain ⟨n, hn, rfl⟩ := List.mem_map.mp m
  exact ⟨n, e, hn⟩
theorem sizeBig {n : Nat} (h : n ≤ 100000) : n < sizeLine := Nat.lt_of_le_of_lt h (by decide)
theorem sizeBig' {n : Nat} (h : n ≤ 100000) : n ≤ sizeLine := Nat.le_of_lt (sizeBig h)
section
variable {g : TG} {tt : TT} {te : TE} {acc : Addr} {σ0 : St} {H0 : Hp} {Q : Hp → Prop}
@[irreducible] noncomputable def CPost (Pv : Nat → List V → St → Hp → Prop) (acc : Addr) (n i : Nat) (σ2 : St) (y : V) (H4 : Hp) : Prop :=
  ∃ ys, H4 acc = some (.lst ys) ∧ ys.length < sizeLine ∧ ∃ m', m' < n - i ∧ m' = n - (i + 1) ∧ i + 1 ≤ n ∧ ∃ zs, Pv (i + 1) zs σ2 (upd H4 acc (.lst (ys ++ [y])))
@[irreducible] noncomputable def CSkip (Pv : Nat → List V → St → Hp → Prop) (n i : Nat) (σ2 : St) (H3 : Hp) : Prop := ∃ m', m' < n - i ∧ m' = n - (i + 1) ∧ i + 1 ≤ n ∧ ∃ zs, Pv (i + 1) zs σ2 H3
theorem cpost {Pv : Nat → List V → St → Hp → Prop} {n i : Nat} {σ2 : St} {y : V} {H4 : Hp} {ys : List V} (h1 : H4 acc = some (.lst ys)) (h2 : ys.length < sizeLine) (h3 : i < n) (h4 : Pv (i + 1) (ys ++ [y]) σ2 (upd H4 acc (.lst (ys ++ [y])))) : CPost Pv acc n i σ2 y H4 :=
  by unfold CPost; exact ⟨ys, h1, h2, n - (i + 1), by (first | lia | omega), rfl, h3, _, h4⟩
theorem cskip {Pv : Nat → List V → St → Hp → Prop} {n i : Nat} {σ2 : St} {H4 : Hp} {ys : List V} (h3 : i < n) (h4 : Pv (i + 1) ys σ2 H4) : CSkip Pv n i σ2 H4 := by unfold CSkip; exact ⟨n - (i + 1), by (first | lia | omega), rfl, h3, _, h4⟩
theorem comp_list {K : PySem.W.Frag} {a : Addr} {xs : List V} (Pv : Nat → List V → St → Hp → Prop) (h0 : Pv 0 [] σ0 H0) (hl : ∀ i ys σ H, Pv i ys σ H → SqL K H a xs)
    (hs : ∀ i ys x σ H, xs[i]? = some x → i < xs.length → Pv i ys σ H → g x σ H fun σ2 H2 => tt σ2 H2 fun b H3 => if b = true then te σ2 H3 (CPost Pv acc xs.length i σ2) else CSkip Pv xs.length i σ2 H3)
    (hd : ∀ ys σ H, Pv xs.length ys σ H → Q H) : CompW (Itl K a) g tt te acc σ0 H0 Q := by
  refine ⟨fun i m σ H => m = xs.length - i ∧ i ≤ xs.length ∧ ∃ ys, Pv i ys σ H, ⟨xs.length, by simp, Nat.zero_le _, [], h0⟩, ?_⟩
  rintro i m σ H ⟨rfl, hi, ys, p⟩
  have q := hl i ys σ H p
  by_cases hlt : i < xs.length
  · refine .inr ⟨⟨xs, xs[i], q, by simp [hlt]⟩, fun x H1 y => ?_⟩
    obtain ⟨e, y⟩ := y
    subst e
    have z := hs i ys x σ _ (y xs q) hlt p
    unfold CPost CSkip at z
    exact z
  · have e : i = xs.length := by (first | lia | omega)
    subst e
    exact .inl ⟨⟨xs, q, Nat.le_refl _⟩, hd ys σ H p⟩
theorem comp_range {lo : Int} {n : Nat} (Pv : Nat → List V → St → Hp → Prop) (h0 : Pv 0 [] σ0 H0)
    (hs : ∀ i ys σ H, i < n → Pv i ys σ H → g (.int (lo + i)) σ H fun σ2 H2 => tt σ2 H2 fun b H3 => if b = true then te σ2 H3 (CPost Pv acc n i σ2) else CSkip Pv n i σ2 H3)
    (hd : ∀ ys σ H, Pv n ys σ H → Q H) : CompW (Itr lo n) g tt te acc σ0 H0 Q := by
  refine ⟨fun i m σ H => m = n - i ∧ i ≤ n ∧ ∃ ys, Pv i ys σ H, ⟨n, by simp, Nat.zero_le _, [], h0⟩, ?_⟩
  rintro i m σ H ⟨rfl, hi, ys, p⟩
  by_cases hlt : i < n
  · refine .inr ⟨hlt, fun x H1 y => ?_⟩
    obtain ⟨e, y⟩ := y
    subst e y
    have z := hs i ys σ _ hlt p
    unfold CPost CSkip at z
    exact z
  · have e : i = n := by (first | lia | omega)
    subst e
    exact .inl ⟨Nat.le_refl _, hd ys σ H p⟩
end
end L3
namespace L3
open PySem PySem.Spec PyProof.Rows L2
end L3
namespace L3
open PySem PySem.Spec PyProof.Rows L2
theorem cmL {i j : Int} (h : -(2 ^ 64) < i ∧ i < 2 ^ 64) : CMul i j := .inl h
theorem cmR {i j : Int} (h : -(2 ^ 64) < j ∧ j < 2 ^ 64) : CMul i j := .inr h
theorem rm_trans {p : Addr} {H H1 H2 : Hp} (s1 : Same (rm p H) H1) (s2 : Same (rm p H1) H2) : Same (rm p H) H2 := (rm_mono s1).trans s2
theorem rm_fresh {p l : Addr} {H : Hp} (h : H l = none) : rm p H l = none := by
  unfold rm; split <;> first | rfl | exact h
theorem rm_look {p b : Addr} {H H' : Hp} {o : HO} (s : Same (rm p H) H') (h : H b = some o) (hb : b ≠ p) : H' b = some o := s b o (by rw [rm_ne hb]; exact h)
theorem rm_free {p l : Addr} {H H' : Hp} {o : HO} (s : Same (rm p H) H') (h : H' l = none) (hp : H' p = some o) : H l = none := by
  have e := s.free h
  rwa [rm_ne (fun z => by rw [z, hp] at h; cases h)] at e
theorem Fd.none {P : Program} {w : World} {K : PySem.W.Frag} {mg : Str → Option Value} {base : Heap} {x : Str} {st : Stmt} {f : Addr} {ps : List Str} {sp : Sp} (F : Fd K mg x st f)
    (hb : ∀ (kV doc pm : Value) (an : Option Addr) (cdv ct : Value) (us : List Value), us.length = ps.length → bindArgs (PySem.W.fnOf x x (defArgs st) (defBody st) (defScope st) .none kV doc pm an cdv ct) ⟨us, []⟩ = pure (ps.zip us))
    (h : ∀ vs H Q E, ¬ sp vs H Q E) : Cal P w K mg base CX0 0 x sp := by
  obtain ⟨⟨fd, F1⟩, F2⟩ := F
  exact ⟨f, fd, ps, ⟨fun vs H Q E q => (h vs H Q E q).elim, fun A outer s H args us vs Q E _ _ _ _ q => (h vs H Q E q).elim⟩, F2, F1.kp, F1.binds hb⟩
end L3
namespace L3
open PySem
theorem bt_abs : bootBuiltins "abs" = some (.builtin "abs") := by decide +kernel
theorem bt_len : bootBuiltins "len" = some (.builtin "len") := by decide +kernel
theorem bt_max : bootBuiltins "max" = some (.builtin "max") := by decide +kernel
theorem bt_min : bootBuiltins "min" = some (.builtin "min") := by decide +kernel
theorem bt_list : bootBuiltins "list" = some (.type "list") := by decide +kernel
theorem bt_set : bootBuiltins "set" = some (.type "set") := by decide +kernel
end L3
namespace L3
open PySem PySem.Spec PyProof.Rows L2
section
variable {X : Cx} {a b e o l : Expr} {es rest : List Expr} {ta tb te to tl : TE} {t : TA} {pos : Pos}
theorem kIx (K : PySem.W.Frag) (hK : X.K = K := by rfl) : IxR X (rIxG K) := by subst hK; exact ix_G
theorem kAnd (K : PySem.W.Frag) (ha : PE X a ta) (hb : PE X (.BoolOp .And (b :: rest) pos) tb) (hK : X.K = K := by rfl) : PE X (.BoolOp .And (a :: b :: rest) pos) (tAndG K ta tb) := by subst hK; exact pe_andG ha hb
noncomputable def rLen (K : PySem.W.Frag) : List V → Hp → VK → Prop := fun xs H Q => ∃ p ys, xs = [.ref p] ∧ (SqL K H p ys ∨ SqT K H p ys) ∧ Q (.int ys.length) H
theorem kLen (K : PySem.W.Frag) (hK : X.K = K := by rfl) : CallR X (.builtin "len") (rLen K) := by subst hK; exact call_len_seq
noncomputable def tTru (K : PySem.W.Frag) (ta : TE) : TT := fun σ H Q => ta σ H fun x H' => ∃ k, TruV K x H' k ∧ Q k H'
theorem kTru (K : PySem.W.Frag) (ha : PE X a ta) (he : ∀ whole, isTrue a X.env whole = (do let v ← whole; standAt a.pos; holding [v] (truthy v))) (hK : X.K = K := by rfl) : PT X a (tTru K ta) := by subst hK; exact pt_truth ha he
theorem kListC (K : PySem.W.Frag) (hK : X.K = K := by rfl) : CallR X (.type "list") (rListN K) := by subst hK; exact call_listN
theorem kSl (K : PySem.W.Frag) (hK : X.K = K := by rfl) : SlR X (rSlN K) := by subst hK; exact sl_listN
theorem kSeq {tg : Expr} (K : PySem.W.Frag) (hl : PE X l tl) (hK : X.K = K := by rfl) : PI X tg l (iSeq K tl) := by subst hK; exact pi_seq hl
theorem kRev {k : Expr} {tk : TO} {p2 : Pos} (K : PySem.W.Frag) (he : PE X e te) (hk : PO X (some k) tk) (hK : X.K = K := by rfl) : PE X (.Subscript e (.Slice none none (some k) p2) pos) (tRev K te tk) := by subst hK; exact pe_rev he hk
noncomputable def notStar : Expr → Bool
  | .Starred _ _ => false
  | _ => true
theorem star_cons {e : Expr} {es : List Expr} {env : Env} (h : notStar e = true) : starEach (e :: es) env = (false, eval e env) :: starEach es env := by
  cases e <;> first
    | rfl
    | cases h
theorem star_nil {env : Env} : starEach [] env = [] := rfl
theorem star_any {pos : Pos} {env : Env} : ∀ es : List Expr, es.all notStar = true → (backTo pos (starEach es env)).any (·.1) = false
  | [], _ => by rw [star_nil]; rfl
  | e :: r, h => by
    rw [List.all_cons, Bool.and_eq_true] at h
    rw [star_cons h.1]
    have := star_any (pos := pos) (env := env) r h.2
    unfold backTo at this ⊢
    rw [List.map_cons, List.any_cons, this]; rfl
theorem star_all {pos : Pos} {env : Env} : ∀ es : List Expr, es.all notStar = true → (backTo pos (starEach es env)).all (fun x => !x.1) = true
  | [], _ => by rw [star_nil]; rfl
  | e :: r, h => by
    rw [List.all_cons, Bool.and_eq_true] at h
    rw [star_cons h.1]
    have := star_all (pos := pos) (env := env) r h.2
    unfold backTo at this ⊢
    rw [List.map_cons, List.all_cons, this]; rfl
theorem all_head {e : Expr} {es : List Expr} (h : (e :: es).all notStar = true) : notStar e = true ∧ es.all notStar = true := by rw [List.all_cons, Bool.and_eq_true] at h; exact h
theorem paC (ha : PE X e te) (hr : PA X es t) (h : notStar e = true := by rfl) : PA X (e :: es) (tCons te t) := pa_cons ha hr (star_cons h)
theorem cF {CX : CXT} {k : Nat} {x : Str} {sp : Sp} {E : XK} {p pos : Pos} (C : Cal X.prog X.w X.K X.mg X.base CX k x sp) (hr : Room k X.A) (hx : Passes CX X E) (hg : Gl X x)
    (ha : PA X (e :: es) t) (hdb : (x == ("__debug__" : Str)) = false := by decide) (h : (e :: es).all notStar = true := by rfl) : PE X (.Call (.Name x p) (e :: es) [] pos) (tCallF sp E t) :=
  pe_callF C hr hx hg ha hdb (star_cons (all_head h).1) (star_any es (all_head h).2)
theorem cB {id : String} {r : List V → Hp → VK → Prop} {x : Str} {p pos : Pos} (hc : CallR X (.builtin id) r) (hg : Gl X x) (hm : X.mg x = none) (hv : bootBuiltins x = some (.builtin id)) (ha : PA X (e :: es) t) (hn : x ≠ "__name__" := by decide) (hdb : (x == ("__debug__" : Str)) = false := by decide)
    (h : (e :: es).all notStar = true := by rfl) : PE X (.Call (.Name x p) (e :: es) [] pos) (tCB r t) := pe_callB hc hg hm hv ha hn hdb (star_cons (all_head h).1) (star_any es (all_head h).2)
theorem cTy {T : String} {r : List V → Hp → VK → Prop} {x : Str} {p pos : Pos} (hc : CallR X (.type T) r) (hg : Gl X x) (hm : X.mg x = none) (hv : bootBuiltins x = some (.type T)) (ha : PA X (e :: es) t) (hn : x ≠ "__name__" := by decide) (hdb : (x == ("__debug__" : Str)) = false := by decide)
    (h : (e :: es).all notStar = true := by rfl) : PE X (.Call (.Name x p) (e :: es) [] pos) (tCB r t) := pe_callTy hc hg hm hv ha hn hdb (star_cons (all_head h).1) (star_any es (all_head h).2)
theorem cRange1 {ta : TA} {p pos : Pos} (hg : Gl X "range") (hm : X.mg "range" = none) (ha : PA X [a] ta) (h : notStar a = true := by rfl) : PE X (.Call (.Name "range" p) [a] [] pos) (tRng1 ta) := pe_range1 hg hm ha (by rw [star_cons h, star_nil])
theorem iRange1 {tg : Expr} {ta : TA} {p pos : Pos} (hg : Gl X "range") (hm : X.mg "range" = none) (ha : PA X [a] ta) (h : notStar a = true := by rfl) : PI X tg (.Call (.Name "range" p) [a] [] pos) (iRng1 ta) := pi_range1 hg hm ha (by rw [star_cons h, star_nil])
theorem kBm {name : Str} {apos cpos : Pos} {T id : String} {r : V → List V → Hp → VK → Prop} (K : PySem.W.Frag) (pa : PlainAttrs T) (slot : Slot T name id) (hty : typeOf (.builtin id) = pure (.type "method_descriptor")) (hm : MtR X id r) (ho : PE X o to) (ha : PA X (e :: es) t)
    (hbase : attributeBase o name X.env (eval o X.env) = eval o X.env := by rfl) (h : (e :: es).all notStar = true := by rfl) (hl : decide ((e :: es).length < 30) = true := by rfl)
    (hline : (apos.endLine == cpos.line) = true := by rfl) (hK : X.K = K := by rfl) :
    PE X (.Call (.Attribute o name apos) (e :: es) [] cpos) (tBM K T r to t) := by
  subst hK
  refine pe_bm pa slot hty hm ho ha hbase ?_ hline (star_cons (all_head h).1) (star_any es (all_head h).2)
  rw [star_all (e :: es) h, Bool.true_and, Bool.and_eq_true]
  exact ⟨rfl, hl⟩
theorem kIn (K : PySem.W.Frag) (hK : X.K = K := by rfl) : OpR X (compareOp .In) (rIn K false) := by subst hK; exact op_in_seq
theorem kNotIn (K : PySem.W.Frag) (hK : X.K = K := by rfl) : OpR X (compareOp .NotIn) (rIn K true) := by subst hK; exact op_notIn_seq
end
end L3
namespace L3
open PySem PySem.Spec PyProof.Rows L2
@[irreducible] noncomputable def QE (X : Cx) (e : Expr) (t : TE) : Prop := PE X e t
@[irreducible] noncomputable def QT (X : Cx) (e : Expr) (t : TT) : Prop := PT X e t
@[irreducible] noncomputable def QW (X : Cx) (e : Expr) (t : TT) : Prop := PW X e t
@[irreducible] noncomputable def QA (X : Cx) (es : List Expr) (t : TA) : Prop := PA X es t
@[irreducible] noncomputable def QS (X : Cx) (s : Stmt) (t : TS) : Prop := PS X s t
@[irreducible] noncomputable def QSs (X : Cx) (s : List Stmt) (t : TS) : Prop := PSs X s t
@[irreducible] noncomputable def QG (X : Cx) (e : Expr) (t : TG) : Prop := PG X e t
@[irreducible] noncomputable def QGs (X : Cx) (es : List Expr) (t : TGs) : Prop := PGs X es t
@[irreducible] noncomputable def QI (X : Cx) (tg e : Expr) (t : TI) : Prop := PI X tg e t
@[irreducible] noncomputable def QO (X : Cx) (e : Option Expr) (t : TO) : Prop := PO X e t
@[irreducible] noncomputable def QTs (X : Cx) (es : List Expr) (t : TT) : Prop := PTs X es t
@[irreducible] noncomputable def ROp (X : Cx) (f : Value → Value → Sem Value) (r : R2) : Prop := OpR X f r
@[irreducible] noncomputable def RUn (X : Cx) (f : Value → Sem Value) (r : V → Hp → VK → Prop) : Prop := UnR X f r
@[irreducible] noncomputable def RCall (X : Cx) (f : Value) (r : List V → Hp → VK → Prop) : Prop := CallR X f r
@[irreducible] noncomputable def RIx (X : Cx) (r : R2) : Prop := IxR X r
@[irreducible] noncomputable def RMt (X : Cx) (id : String) (r : V → List V → Hp → VK → Prop) : Prop := MtR X id r
@[irreducible] noncomputable def RSl (X : Cx) (r : V → Option Int → Option Int → Hp → VK → Prop) : Prop := SlR X r
@[irreducible] noncomputable def RSet (X : Cx) (r : TSet) : Prop := PSet X r
@[irreducible] noncomputable def RIp (X : Cx) (op : Operator) (r : TIp) : Prop := PIp X op r
section
variable {X : Cx}
theorem QE.un {e : Expr} {t : TE} (h : QE X e t) : PE X e t := by unfold QE at h; exact h
theorem QE.mk {e : Expr} {t : TE} (h : PE X e t) : QE X e t := by unfold QE; exact h
theorem QT.un {e : Expr} {t : TT} (h : QT X e t) : PT X e t := by unfold QT at h; exact h
theorem QT.mk {e : Expr} {t : TT} (h : PT X e t) : QT X e t := by unfold QT; exact h
theorem QW.un {e : Expr} {t : TT} (h : QW X e t) : PW X e t := by unfold QW at h; exact h
theorem QW.mk {e : Expr} {t : TT} (h : PW X e t) : QW X e t := by unfold QW; exact h
theorem QA.un {es : List Expr} {t : TA} (h : QA X es t) : PA X es t := by unfold QA at h; exact h
theorem QA.mk {es : List Expr} {t : TA} (h : PA X es t) : QA X es t := by unfold QA; exact h
theorem QS.un {s : Stmt} {t : TS} (h : QS X s t) : PS X s t := by unfold QS at h; exact h
theorem QS.mk {s : Stmt} {t : TS} (h : PS X s t) : QS X s t := by unfold QS; exact h
theorem QSs.un {s : List Stmt} {t : TS} (h : QSs X s t) : PSs X s t := by unfold QSs at h; exact h
theorem QSs.mk {s : List Stmt} {t : TS} (h : PSs X s t) : QSs X s t := by unfold QSs; exact h
theorem QG.un {e : Expr} {t : TG} (h : QG X e t) : PG X e t := by unfold QG at h; exact h
theorem QG.mk {e : Expr} {t : TG} (h : PG X e t) : QG X e t := by unfold QG; exact h
theorem QGs.un {es : List Expr} {t : TGs} (h : QGs X es t) : PGs X es t := by unfold QGs at h; exact h
theorem QGs.mk {es : List Expr} {t : TGs} (h : PGs X es t) : QGs X es t := by unfold QGs; exact h
theorem QI.un {tg e : Expr} {t : TI} (h : QI X tg e t) : PI X tg e t := by unfold QI at h; exact h
theorem QI.mk {tg e : Expr} {t : TI} (h : PI X tg e t) : QI X tg e t := by unfold QI; exact h
theorem QO.un {e : Option Expr} {t : TO} (h : QO X e t) : PO X e t := by unfold QO at h; exact h
theorem QO.mk {e : Option Expr} {t : TO} (h : PO X e t) : QO X e t := by unfold QO; exact h
theorem QTs.un {es : List Expr} {t : TT} (h : QTs X es t) : PTs X es t := by unfold QTs at h; exact h
theorem QTs.mk {es : List Expr} {t : TT} (h : PTs X es t) : QTs X es t := by unfold QTs; exact h
theorem ROp.un {f : Value → Value → Sem Value} {r : R2} (h : ROp X f r) : OpR X f r := by unfold ROp at h; exact h
theorem ROp.mk {f : Value → Value → Sem Value} {r : R2} (h : OpR X f r) : ROp X f r := by unfold ROp; exact h
theorem RUn.un {f : Value → Sem Value} {r : V → Hp → VK → Prop} (h : RUn X f r) : UnR X f r := by unfold RUn at h; exact h
theorem RUn.mk {f : Value → Sem Value} {r : V → Hp → VK → Prop} (h : UnR X f r) : RUn X f r := by unfold RUn; exact h
theorem RCall.un {f : Value} {r : List V → Hp → VK → Prop} (h : RCall X f r) : CallR X f r := by unfold RCall at h; exact h
theorem RCall.mk {f : Value} {r : List V → Hp → VK → Prop} (h : CallR X f r) : RCall X f r := by unfold RCall; exact h
theorem RIx.un {r : R2} (h : RIx X r) : IxR X r := by unfold RIx at h; exact h
theorem RIx.mk {r : R2} (h : IxR X r) : RIx X r := by unfold RIx; exact h
theorem RMt.un {id : String} {r : V → List V → Hp → VK → Prop} (h : RMt X id r) : MtR X id r := by unfold RMt at h; exact h
theorem RMt.mk {id : String} {r : V → List V → Hp → VK → Prop} (h : MtR X id r) : RMt X id r := by unfold RMt; exact h
theorem RSl.un {r : V → Option Int → Option Int → Hp → VK → Prop} (h : RSl X r) : SlR X r := by unfold RSl at h; exact h
theorem RSl.mk {r : V → Option Int → Option Int → Hp → VK → Prop} (h : SlR X r) : RSl X r := by unfold RSl; exact h
theorem RSet.un {r : TSet} (h : RSet X r) : PSet X r := by unfold RSet at h; exact h
theorem RSet.mk {r : TSet} (h : PSet X r) : RSet X r := by unfold RSet; exact h
theorem RIp.un {op : Operator} {r : TIp} (h : RIp X op r) : PIp X op r := by unfold RIp at h; exact h
theorem RIp.mk {op : Operator} {r : TIp} (h : PIp X op r) : RIp X op r := by unfold RIp; exact h
end
section
variable {X : Cx} {a b c e o l : Expr} {es rest : List Expr} {ta tb tc te to tl : TE} {t : TA} {pos : Pos} {tA tB' : TT}
theorem rAdd : ROp X (binaryOp .Add) rAddG := .mk op_addG
theorem rSub : ROp X (binaryOp .Sub) (rI0 fun i j => .int (i - j)) := .mk op_sub
theorem rMul : ROp X (binaryOp .Mult) (rI CMul fun i j => .int (i * j)) := .mk op_mul
theorem rMod : ROp X (binaryOp .Mod) (rI (fun _ j => 0 < j) fun i j => .int (i % j)) := .mk op_mod
theorem rPow : ROp X (binaryOp .Pow) (rI CPow fun i j => .int (i ^ j.toNat)) := .mk op_pow
theorem rNeg : RUn X (unaryOp .USub) (rU fun i => .int (-i)) := .mk un_neg
theorem rLt : ROp X (compareOp .Lt) (rI0 fun i j => .bl (decide (i < j))) := .mk op_lt
theorem rLe : ROp X (compareOp .LtE) (rI0 fun i j => .bl (decide (i ≤ j))) := .mk op_le
theorem rGt : ROp X (compareOp .Gt) (rI0 fun i j => .bl (decide (j < i))) := .mk op_gt
theorem rGe : ROp X (compareOp .GtE) (rI0 fun i j => .bl (decide (j ≤ i))) := .mk op_ge
theorem rEqq {k : Nat} {A : Around} (hr : Room k A) (hA : X.A = A := by rfl) : ROp X (compareOp .Eq) (rEqG 150) := .mk (op_eqG (by rw [hA]; exact hu_n hr))
theorem rNeq {k : Nat} {A : Around} (hr : Room k A) (hA : X.A = A := by rfl) : ROp X (compareOp .NotEq) (rNeG 150) := .mk (op_neG (by rw [hA]; exact hu_n hr))
theorem rIs : ROp X (compareOp .Is) (fun x y H Q => y = .non ∧ Q (.bl (decide (x = .non))) H) := .mk op_isN
theorem rIsNot : ROp X (compareOp .IsNot) (fun x y H Q => y = .non ∧ Q (.bl (!decide (x = .non))) H) := .mk op_notN
theorem rInn (K : PySem.W.Frag) (hK : X.K = K := by rfl) : ROp X (compareOp .In) (rIn K false) := .mk (kIn K hK)
theorem rNotInn (K : PySem.W.Frag) (hK : X.K = K := by rfl) : ROp X (compareOp .NotIn) (rIn K true) := .mk (kNotIn K hK)
theorem xIx (K : PySem.W.Frag) (hK : X.K = K := by rfl) : RIx X (rIxG K) := .mk (kIx K hK)
theorem xSl (K : PySem.W.Frag) (hK : X.K = K := by rfl) : RSl X (rSlN K) := .mk (kSl K hK)
theorem xSet : RSet X rSetL := .mk set_list
theorem fLen (K : PySem.W.Frag) (hK : X.K = K := by rfl) : RCall X (.builtin "len") (rLen K) := .mk (kLen K hK)
noncomputable def rAbs : List V → Hp → VK → Prop := fun xs H Q => ∃ i, xs = [.int i] ∧ Q (.int (if i < 0 then -i else i)) H
theorem fAbs : RCall X (.builtin "abs") rAbs := .mk call_abs
theorem fList (K : PySem.W.Frag) (hK : X.K = K := by rfl) : RCall X (.type "list") (rListN K) := .mk (kListC K hK)
noncomputable def rListRng : List V → Hp → VK → Prop := fun xs H Q => ∃ r lo hi, xs = [.ref r] ∧ H r = some (.rng lo hi) ∧ (-(2 ^ 62) ≤ lo ∧ lo < 2 ^ 62 ∧ -(2 ^ 62) ≤ hi ∧ hi < 2 ^ 62 ∧ hi - lo ≤ 2 ^ 24) ∧ New H (.lst (rangeVs lo hi)) Q
theorem fListRng (hc : X.calm = true := by rfl) : RCall X (.type "list") rListRng := .mk (call_list_rng hc)
theorem mAppend : RMt X "list.append" rAppend := .mk mt_append
theorem mInsert : RMt X "list.insert" rInsert := .mk mt_insert
theorem mExtend : RMt X "list.extend" rExtend := .mk mt_extend
theorem iAdd : RIp X .Add (ipI fun i j => i + j) := .mk ip_add
theorem qv (i : Nat) {x : Str} {pos : Pos} (hN : X.N[i]? = some x := by rfl) (hv : Vis X.env.scope x := by first | exact Or.inl rfl | exact Or.inr (Or.inl rfl) | exact Or.inr (Or.inr rfl)) (hd : (x == ("__debug__" : Str)) = false := by decide)
    (hcd : (x == ("__classdict__" : Str)) = false := by decide) : QE X (.Name x pos) (tVar i) := .mk (pe_var hN hv hd hcd)
theorem qint {i j pos} : QE X (.Constant (.int i) j pos) (tC (.int i)) := .mk pe_int
theorem qbl {b j pos} : QE X (.Constant (.bool b) j pos) (tC (.bl b)) := .mk pe_bl
theorem qnon {j pos} : QE X (.Constant .none j pos) (tC .non) := .mk pe_non
theorem qglobI {x : Str} {i : Int} {pos : Pos} (hg : Gl X x) (hm : ∃ tk, X.mg x = some (.int i tk)) (hd : (x == ("__debug__" : Str)) = false := by decide) : QE X (.Name x pos) (tC (.int i)) := by
  obtain ⟨tk, h⟩ := hm
  exact .mk (pe_glob hg h ⟨tk, rfl⟩ hd)
theorem qop {op : Operator} {r : R2} (ho : ROp X (binaryOp op) r) (ha : QE X a ta) (hb : QE X b tb) : QE X (.BinOp a op b pos) (tOp r ta tb) := .mk (pe_op ho.un ha.un hb.un)
theorem qun {op : UnaryOp} {r : V → Hp → VK → Prop} (ho : RUn X (unaryOp op) r) (ha : QE X a ta) : QE X (.UnaryOp op a pos) (tUn r ta) := .mk (pe_un ho.un ha.un)
theorem qcmp {op : CmpOp} {r : R2} (ho : ROp X (compareOp op) r) (ha : QE X a ta) (hb : QE X b tb) (hm : behindInMarks op b = false) : QE X (.Compare a [op] [b] pos) (tOp r ta tb) := .mk (pe_cmpR ho.un ha.un hb.un hm)
theorem qand (K : PySem.W.Frag) (ha : QE X a ta) (hb : QE X (.BoolOp .And (b :: rest) pos) tb) (hK : X.K = K := by rfl) : QE X (.BoolOp .And (a :: b :: rest) pos) (tAndG K ta tb) := .mk (kAnd K ha.un hb.un hK)
theorem qone {op} (h : QE X a te) : QE X (.BoolOp op [a] pos) te := .mk (pe_one h.un)
theorem qif (hc : QT X c tA) (ha : QE X a ta) (hb : QE X b tb) : QE X (.IfExp c a b pos) (tIf tA ta tb) := .mk (pe_ifExp hc.un ha.un hb.un)
theorem qnil : QA X [] tNil := .mk pa_nil
theorem qcons (ha : QE X e te) (hr : QA X es t) (h : notStar e = true := by rfl) : QA X (e :: es) (tCons te t) := .mk (paC ha.un hr.un h)
theorem qtup {x1} (h : QA X es t) : QE X (.Tuple es x1 pos) (tTupN t) := .mk (pe_tupN h.un)
theorem qlst (h : QA X es t) : QE X (.List es pos) (tLstN t) := .mk (pe_lstN h.un)
theorem qdict : QE X (.Dict [] [] pos) tDictN := .mk pe_dictN
theorem qix {r : R2} (hr : RIx X r) (ha : QE X a ta) (hb : QE X b tb) (hs : PlainIx b) : QE X (.Subscript a b pos) (tOp r ta tb) := .mk (pe_ix hr.un ha.un hb.un hs)
theorem qslice {r : V → Option Int → Option Int → Hp → VK → Prop} {lo hi : Option Expr} {t1 t2 : TO} {p2 : Pos} (hr : RSl X r) (he : QE X e te) (hl : QO X lo t1) (hu : QO X hi t2) : QE X (.Subscript e (.Slice lo hi none p2) pos) (tSl r te t1 t2) := .mk (pe_slice hr.un he.un hl.un hu.un)
theorem qrev {k : Expr} {tk : TO} {p2 : Pos} (K : PySem.W.Frag) (he : QE X e te) (hk : QO X (some k) tk) (hK : X.K = K := by rfl) : QE X (.Subscript e (.Slice none none (some k) p2) pos) (tRev K te tk) := .mk (kRev K he.un hk.un hK)
theorem osome (h : QE X e te) : QO X (some e) (tPart te) := .mk (po_some h.un)
theorem qdget {td ty : TE} {i : Expr} {k : Nat} {A : Around} (hr : Room k A) (ho : QE X o td) (hi : QE X i ty) (hs : NoSl i) (hA : X.A = A := by rfl) : QE X (.Subscript o i pos) (tDGet td ty) := .mk (pe_dget (by rw [hA]; exact hu_of hr) ho.un hi.un hs)
theorem qF {CX : CXT} {k : Nat} {x : Str} {sp : Sp} {E : XK} {p pos : Pos} (C : Cal X.prog X.w X.K X.mg X.base CX k x sp) (hr : Room k X.A) (hx : Passes CX X E) (hg : Gl X x)
    (ha : QA X (e :: es) t) (hdb : (x == ("__debug__" : Str)) = false := by decide) (h : (e :: es).all notStar = true := by rfl) : QE X (.Call (.Name x p) (e :: es) [] pos) (tCallF sp E t) := .mk (cF C hr hx hg ha.un hdb h)
theorem qB {id : String} {r : List V → Hp → VK → Prop} {x : Str} {p pos : Pos} (hc : RCall X (.builtin id) r) (hg : Gl X x) (hm : X.mg x = none) (hv : bootBuiltins x = some (.builtin id)) (ha : QA X (e :: es) t) (hn : x ≠ "__name__" := by decide) (hdb : (x == ("__debug__" : Str)) = false := by decide)
    (h : (e :: es).all notStar = true := by rfl) : QE X (.Call (.Name x p) (e :: es) [] pos) (tCB r t) := .mk (cB hc.un hg hm hv ha.un hn hdb h)
theorem qTy {T : String} {r : List V → Hp → VK → Prop} {x : Str} {p pos : Pos} (hc : RCall X (.type T) r) (hg : Gl X x) (hm : X.mg x = none) (hv : bootBuiltins x = some (.type T)) (ha : QA X (e :: es) t) (hn : x ≠ "__name__" := by decide) (hdb : (x == ("__debug__" : Str)) = false := by decide)
    (h : (e :: es).all notStar = true := by rfl) : QE X (.Call (.Name x p) (e :: es) [] pos) (tCB r t) := .mk (cTy hc.un hg hm hv ha.un hn hdb h)
theorem qRange1 {ta : TA} {p pos : Pos} (hg : Gl X "range") (hm : X.mg "range" = none) (ha : QA X [a] ta) (h : notStar a = true := by rfl) : QE X (.Call (.Name "range" p) [a] [] pos) (tRng1 ta) := .mk (cRange1 hg hm ha.un h)
theorem qBm {name : Str} {apos cpos : Pos} {T id : String} {r : V → List V → Hp → VK → Prop} (K : PySem.W.Frag) (pa : PlainAttrs T) (slot : Slot T name id) (hty : typeOf (.builtin id) = pure (.type "method_descriptor")) (hm : RMt X id r) (ho : QE X o to) (ha : QA X (e :: es) t)
    (hbase : attributeBase o name X.env (eval o X.env) = eval o X.env := by rfl) (h : (e :: es).all notStar = true := by rfl) (hl : decide ((e :: es).length < 30) = true := by rfl)
    (hline : (apos.endLine == cpos.line) = true := by rfl) (hK : X.K = K := by rfl) : QE X (.Call (.Attribute o name apos) (e :: es) [] cpos) (tBM K T r to t) := .mk (kBm K pa slot hty hm.un ho.un ha.un hbase h hl hline hK)
theorem tcmp {op : CmpOp} {r : R2} (ho : ROp X (compareOp op) r) (ha : QE X a ta) (hb : QE X b tb) (hm : behindInMarks op b = false) : QT X (.Compare a [op] [b] pos) (tTest (tOp r ta tb)) := .mk (pt_cmpR ho.un ha.un hb.un hm)
theorem tchain {op op' : CmpOp} {r r' : R2} (ho : ROp X (compareOp op) r) (ho' : ROp X (compareOp op') r') (ha : QE X a ta) (hb : QE X b tb) (hc : QE X c tc)
    (hm : lastMarks [op, op'] [b, c] = false := by with_unfolding_all rfl) : QT X (.Compare a [op, op'] [b, c] pos) (tTest (tChain r r' ta tb tc)) := .mk (pt_chain ho.un ho'.un ha.un hb.un hc.un hm)
theorem ttru (K : PySem.W.Frag) (ha : QE X a ta) (he : ∀ whole, isTrue a X.env whole = (do let v ← whole; standAt a.pos; holding [v] (truthy v))) (hK : X.K = K := by rfl) : QT X a (tTru K ta) := .mk (kTru K ha.un he hK)
theorem tnot (ha : QT X a tA) : QT X (.UnaryOp .Not a pos) (tNot tA) := .mk (pt_not ha.un)
theorem wand1 (ha : QT X a tA) : QW X (.BoolOp .And [a] pos) tA := .mk (pw_and1 ha.un)
theorem wor1 (ha : QT X a tA) : QW X (.BoolOp .Or [a] pos) tA := .mk (pw_or1 ha.un)
theorem wand (ha : QT X a tA) (hb : QW X (.BoolOp .And (b :: rest) pos) tB') : QW X (.BoolOp .And (a :: b :: rest) pos) (tAnd tA tB') := .mk (pw_and ha.un hb.un)
theorem wor (ha : QT X a tA) (hb : QW X (.BoolOp .Or (b :: rest) pos) tB') : QW X (.BoolOp .Or (a :: b :: rest) pos) (tOr tA tB') := .mk (pw_or ha.un hb.un)
theorem QW.tst (h : QW X a tA) : QT X a tA := .mk h.un.pt
theorem gname {i : Nat} {x : Str} (hN : X.N.Nodup) (hi : X.N[i]? = some x) (hx : Loc X.env.scope x) (hf : X.fn x = true ∨ X.env.scope.names.lookup x = some .local := by first | exact .inl rfl | exact .inr rfl | assumption) : QG X (.Name x pos) (gName i) := .mk (pg_name hN hi hx hf)
theorem gsnil : QGs X [] gNil := .mk pgs_nil
theorem gscons {t : TG} {u : TGs} (h1 : QG X e t) (h2 : QGs X es u) (hs : (assignEach (e :: es) X.env).map (·.2) = assign e X.env :: (assignEach es X.env).map (·.2) := by rfl) : QGs X (e :: es) (gCons t u) := .mk (pgs_cons h1.un h2.un hs)
theorem gtup {k : Nat} {t : TGs} {n : Nat} (K : PySem.W.Frag) (hc : X.calm = true) (h : QGs X es t) (hn : (assignEach es X.env).length = n := by rfl) (hst : (assignEach es X.env).findIdx? (·.1) = none := by rfl) (hK : X.K = K := by rfl) : QG X (.Tuple es k pos) (gTup K n t) := by
  subst hK; exact .mk (pg_tup hc h.un hn hst)
theorem gsub {i : Expr} {ti : TE} {t : TSet} (ho : QE X o to) (hi : QE X i ti) (hs : RSet X t) 
    (ha : ∀ v, assign (.Subscript o i pos) X.env v = (do
      let ov ← holding [v] (eval o X.env)
      let iv ← holding [v, ov] (eval i X.env)
      standAt pos
      holding [v, ov, iv] (setItem ov iv v)
      release [v, ov, iv] []) := by intro _; rfl) : QG X (.Subscript o i pos) (gSub to ti t) := .mk (pg_sub ho.un hi.un hs.un ha)
theorem iseq {tg : Expr} (K : PySem.W.Frag) (hl : QE X l tl) (hK : X.K = K := by rfl) : QI X tg l (iSeq K tl) := .mk (kSeq K hl.un hK)
theorem irange1 {tg : Expr} {ta : TA} {p pos : Pos} (hg : Gl X "range") (hm : X.mg "range" = none) (ha : QA X [a] ta) (h : notStar a = true := by rfl) : QI X tg (.Call (.Name "range" p) [a] [] pos) (iRng1 ta) := .mk (iRange1 hg hm ha.un h)
theorem csnil : QTs X [] tT0 := .mk pts_nil
theorem csone (h : QT X c tA) : QTs X [c] tA := .mk (pts_one h.un)
theorem qcomp {elt target iter : Expr} {ifs : List Expr} {scope : Scope} {pos : Pos} {wi : TI} {g : TG} {tt : TT} {te : TE} {sc : Scope} {NX : List Str} (N' : List Str) (cs : List (Option Nat)) (hc : X.calm = true)
    (hi : QI X target iter wi) (hg : ∀ fp s3 H3, QG (cxC X N' scope fp s3 H3) target g) (ht : ∀ fp s3 H3, QTs (cxC X N' scope fp s3 H3) ifs tt) (he : ∀ fp s3 H3, QE (cxC X N' scope fp s3 H3) elt te)
    (hsc : X.env.scope = sc) (hN : X.N = NX) (hcs : csOk sc NX N' cs scope = true) (hs : ∀ x, foldedSetIterable iter X.env x = pure x := by intro _; rfl) :
    QE X (.ListComp elt [⟨target, iter, ifs, 0⟩] scope pos) (tComp cs wi g tt te) :=
  .mk (pe_comp N' cs hc hi.un (fun fp s3 H3 => (hg fp s3 H3).un) (fun fp s3 H3 => (ht fp s3 H3).un) (fun fp s3 H3 => (he fp s3 H3).un) hsc hN hcs hs)
variable {st : Stmt} {sts : List Stmt} {t1 t2 : TS}
theorem bnil : QSs X [] tNext := .mk pss_nil
theorem bcons (h1 : QS X st t1) (h2 : QSs X sts t2) : QSs X (st :: sts) (tSeq t1 t2) := .mk (pss_cons h1.un h2.un)
theorem bone (h1 : QS X st t1) : QSs X [st] t1 := .mk (pss_one h1.un)
theorem sexpr (he : QE X e te) (hs : swapsWith e none pos.line X.env = pure false := by rfl) : QS X (.Expr e pos) (tDrop te) := .mk (ps_expr he.un hs)
theorem sret (he : QE X e te) : QS X (.Return (some e) pos) (tRet te) := .mk (ps_ret he.un)
theorem sif {c : Expr} {a b : List Stmt} {tc : TT} (hc : QT X c tc) (ha : QSs X a t1) (hb : QSs X b t2) : QS X (.If c a b pos) (tIfS tc t1 t2) := .mk (ps_if hc.un ha.un hb.un)
theorem sset {i : Nat} {x : Str} {pos' : Pos} (hN : X.N.Nodup) (hi : X.N[i]? = some x) (hx : Loc X.env.scope x) (he : QE X e te) (hs : swapsWith e (some (.Name x pos')) pos.line X.env = pure false := by rfl) (hf : X.fn x = true ∨ X.env.scope.names.lookup x = some .local := by first | exact .inl rfl | exact .inr rfl | assumption) :
    QS X (.Assign [.Name x pos'] e pos) (tAsg te (gName i)) := .mk (ps_set hN hi hx he.un hs hf)
theorem ssetC {i : Nat} {y : Str} {py spos : Pos} {elt target iter : Expr} {ifs : List Expr} {scope : Scope} {pos : Pos} {wi : TI} {g : TG} {tt : TT} {te : TE} {sc : Scope} {NX : List Str} (N' : List Str) (cs : List (Option Nat)) (hc : X.calm = true)
    (hND : X.N.Nodup) (hiN : X.N[i]? = some y) (hy : X.env.scope.names.lookup y = some .local)
    (hi : QI X target iter wi) (hg : ∀ fp s3 H3, QG (cxC X N' scope fp s3 H3) target g) (ht : ∀ fp s3 H3, QTs (cxC X N' scope fp s3 H3) ifs tt) (he : ∀ fp s3 H3, QE (cxC X N' scope fp s3 H3) elt te)
    (hsc : X.env.scope = sc) (hN : X.N = NX) (hcs : csOk sc NX N' cs scope = true)
    (hsw : swapsWith (.ListComp elt [⟨target, iter, ifs, 0⟩] scope pos) (some (.Name y py)) spos.line X.env = pure true)
    (hs : ∀ x, foldedSetIterable iter X.env x = pure x := by intro _; rfl) :
    QS X (.Assign [.Name y py] (.ListComp elt [⟨target, iter, ifs, 0⟩] scope pos) spos) (tAsg (tComp cs wi g tt te) (gName i)) :=
  .mk (ps_setC N' cs hc hND hiN hy hi.un (fun fp s3 H3 => (hg fp s3 H3).un) (fun fp s3 H3 => (ht fp s3 H3).un) (fun fp s3 H3 => (he fp s3 H3).un) hsc hN hcs hsw hs)
theorem sasg {tg : Expr} {g : TG} (he : QE X e te) (hg : QG X tg g) (hs : swapsWithSole [tg] e pos.line X.env = pure false := by rfl) (hw : swappedStores [tg] e X.env = pure none := by rfl)
    (h1 : (assignEach [tg] X.env).map (·.2) = [assign tg X.env] := by rfl) : QS X (.Assign [tg] e pos) (tAsg te g) := .mk (ps_asg he.un hg.un hs hw h1)
theorem saug {i : Nat} {x : Str} {op : Operator} {ti : TIp} {pos' : Pos} (hN : X.N.Nodup) (hi : X.N[i]? = some x) (hx : Loc X.env.scope x) (he : QE X e te) (ho : RIp X op ti) (hf : X.fn x = true ∨ X.env.scope.names.lookup x = some .local := by first | exact .inl rfl | exact .inr rfl | assumption) :
    QS X (.AugAssign (.Name x pos') op e pos) (tAug i te ti) := .mk (ps_aug hN hi hx he.un ho.un hf)
theorem sdput {i value : Expr} {td ty tv : TE} {pos' : Pos} {k : Nat} {A : Around} (hr : Room k A) (ho : QE X o td) (hi : QE X i ty) (hv : QE X value tv) (hs : swapsWith value (some (.Subscript o i pos')) pos.line X.env = pure false) (hA : X.A = A := by rfl) :
    QS X (.Assign [.Subscript o i pos'] value pos) (sDPut td ty tv) := .mk (ps_dput (by rw [hA]; exact hu_of hr) ho.un hi.un hv.un hs)
theorem sfor {tg iter : Expr} {body : List Stmt} {wi : TI} {g : TG} {tb : TS} (hp : PassesOwn (model X.prog X.w) X.A X.env X.xe) (hc : X.calm = true) (hi : QI X tg iter wi) (hg : QG X tg g) (hb : QSs X body tb)
    (hs : ∀ x, foldedSetIterable iter X.env x = pure x := by intro _; rfl) : QS X (.For tg iter body [] pos) (tFor wi g tb) := .mk (ps_for hp hc hi.un hg.un hb.un hs)
theorem swhile {c : Expr} {body : List Stmt} {tc : TT} {tb : TS} (hp : PassesOwn (model X.prog X.w) X.A X.env X.xe) (hc : QT X c tc) (hb : QSs X body tb) : QS X (.While c body [] pos) (tWhile tc tb) := .mk (ps_while hp hc.un hb.un)
end
theorem split {X : Cx} {body : List Stmt} {D : Ends} {σ : St} {H : Hp} (n : Nat) (M : St → Hp → Prop) (h2 : ∃ t, QSs X (body.drop n) t ∧ ∀ σ' H', M σ' H' → t D σ' H')
    (h1 : ∀ u, QSs X (body.drop n) u → (∀ σ' H', M σ' H' → u D σ' H') → ∃ t, QSs X body t ∧ t D σ H) : ∃ t, QSs X body t ∧ t D σ H := by
  obtain ⟨t, p, q⟩ := h2
  exact h1 t p q
theorem Fd.cal {P : Program} {w : World} {K : PySem.W.Frag} {mg : Str → Option Value} {base : Heap} {x : Str} {st : Stmt} {f : Addr} {N ps : List Str} {k : Nat} {sp : Sp} (F : Fd K mg x st f) (S : FnScope N ps (defScope st))
    (hb : ∀ (kV doc pm : Value) (an : Option Addr) (cdv ct : Value) (us : List Value), us.length = ps.length → bindArgs (PySem.W.fnOf x x (defArgs st) (defBody st) (defScope st) .none kV doc pm an cdv ct) ⟨us, []⟩ = pure (ps.zip us))
    (len : ∀ vs H Q E, sp vs H Q E → vs.length = ps.length)
    (hbody : ∀ (cdv : Value) (A : Around) (outer : List Env) (s : Shared) (H : Hp) (vs : List V) (Q : VK) (E : XK), Room k (A.deeper (envOfC x (defScope st) s.heap.objs.size f cdv)) → sp vs H Q E →
      ∃ t, QSs (cxOf CX0 P w K mg base N x (defScope st) f cdv A outer s H E).nox (defBody st) t ∧ t { nx := fun _ H' => Q .non H', rt := Q } (start N vs) H) : Cal P w K mg base CX0 (k + 1) x sp := by
  obtain ⟨⟨fd, F1⟩, F2⟩ := F
  refine ⟨f, fd, ps, F1.ok S len (fun cdv A outer s H vs Q E hr h => ?_), F2, F1.kp, F1.binds hb⟩
  obtain ⟨t, p, q⟩ := hbody cdv A outer s H vs Q E hr h
  exact ⟨t, p.un, q⟩
end L3
namespace L3
open PySem L2
noncomputable def D.ty : D → String
  | .non => "NoneType"
  | .bl _ => "bool"
  | .int _ => "int"
  | .str _ => "str"
  | .tup _ => "tuple"
  | .lst _ => "list"
  | .emp => "dict"
theorem Rep.ty {K : PySem.W.Frag} {H : Hp} {v : V} {e : D} (h : Rep H v e) : TyOf K H v (.type e.ty) := by
  cases h with
  | non => exact .non
  | bl b => exact .bl b
  | int i => exact .int i
  | str x => exact .str x
  | tup e _ => exact .tup e
  | lst e _ => exact .lst e
  | emp e => exact .dK e
end L3
namespace L3
open PySem L2
end L3
namespace L3
open PySem L2 PyProof.Rows
theorem okQ {P : Program} {w : World} {K : PySem.W.Frag} {mg : Str → Option Value} {base : Heap} {x : Str} {st : Stmt} {f : Addr} {fd : FuncData} {N ps : List Str} {k : Nat} {sp : Sp} (F : Fun K x x st f fd) (S : FnScope N ps (defScope st))
    (len : ∀ vs H Q E, sp vs H Q E → vs.length = ps.length)
    (hbody : ∀ (cdv : Value) (A : Around) (outer : List Env) (s : Shared) (H : Hp) (vs : List V) (Q : VK) (E : XK), Room k (A.deeper (envOfC x (defScope st) s.heap.objs.size f cdv)) → sp vs H Q E →
      ∃ t, QSs (cxOf CX0 P w K mg base N x (defScope st) f cdv A outer s H E).nox (defBody st) t ∧ t { nx := fun _ H' => Q .non H', rt := Q } (start N vs) H) : FnOk P w K mg base CX0 (k + 1) f fd ps sp := by
  refine F.ok S len (fun cdv A outer s H vs Q E hr h => ?_)
  obtain ⟨t, p, q⟩ := hbody cdv A outer s H vs Q E hr h
  exact ⟨t, p.un, q⟩
end L3
namespace L3
open PySem PySem.Spec PyProof.Rows L2
section
variable {X : Cx}
noncomputable def CDivB (i j : Int) : Prop := 0 < j ∧ j < 2 ^ 1000
theorem op_fdivB : OpR X (binaryOp .FloorDiv) (rI CDivB fun i j => .int (i / j)) := opI fun i j _ _ _ _ _ hc q => by
  refine floordiv_int (by have := hc.1; (first | lia | omega)) (by rw [Int.fdiv_eq_ediv_of_nonneg _ (Int.le_of_lt hc.1)]; exact q) (.inl (PyProof.noPylong_of_log2 ?_))
  by_cases h0 : j.natAbs = 0
  · rw [h0]; decide +kernel
  · have : j.natAbs < 2 ^ 1000 := by have := hc.1; have := hc.2; (first | lia | omega)
    exact Nat.lt_trans ((Nat.log2_lt h0).mpr this) (by decide)
theorem rDivB : ROp X (binaryOp .FloorDiv) (rI CDivB fun i j => .int (i / j)) := .mk op_fdivB
noncomputable def rMaxL (K : PySem.W.Frag) : List V → Hp → VK → Prop := fun xs H Q => ∃ (p : Addr) (ns : List Int), xs = [.ref p] ∧ SqL K H p (ns.map V.int) ∧ 0 < ns.length ∧ ∀ M, M ∈ ns → (∀ a ∈ ns, a ≤ M) → Q (.int M) H
theorem call_maxL (hc : X.calm = true) : CallR X (.builtin "max") (rMaxL X.K) := by
  intro pins s σ H xs us Q I rv h
  obtain ⟨p, ns, rfl, hp, hne, q⟩ := h
  obtain ⟨u, rfl, ru⟩ := vals1 rv
  cases ru
  obtain ⟨its, r, pl, hz⟩ := I.list hp
  have hi := intsAre_of r
  obtain ⟨ys, e⟩ := hi.allInts.items
  have hns : ns = ys.toList.map (·.1) := by rw [← hi.numsOf, ← nums_intItems, ← e]
  have hsz : 0 < ys.size := by
    have h3 := hne; rw [hns, List.length_map, Array.length_toList] at h3; exact h3
  have hl := pl.isList
  rw [e] at hl
  refine max_intList (I.ok.hd hc) hl hsz fun v h' tk hv hk => ?_
  obtain ⟨t, rfl⟩ := intItems_at hv
  obtain ⟨h1, h2⟩ := argBest_gt (numAt ys) (ys.size - 1)
  refine ⟨.int _, H, I.kept hk, ⟨t, rfl⟩, q _ ?_ fun a ha => ?_⟩
  · rw [hns, numAt_eq]; exact getD_mem (by rw [List.length_map, Array.length_toList]; (first | lia | omega))
  · rw [hns] at ha
    obtain ⟨j, hj, rfl⟩ := mem_getD ha
    rw [List.length_map, Array.length_toList] at hj
    rw [← numAt_eq]; exact h2 j (by (first | lia | omega))
theorem fMax (K : PySem.W.Frag) (hc : X.calm = true := by rfl) (hK : X.K = K := by rfl) : RCall X (.builtin "max") (rMaxL K) := by subst hK; exact .mk (call_maxL hc)
noncomputable def rUpdate : V → List V → Hp → VK → Prop := fun x vs H Q => ∃ d o kvs more, x = .ref d ∧ vs = [.ref o] ∧ d ≠ o ∧ H d = some (.dK kvs) ∧ H o = some (.dK more) ∧ kvs.length + more.length ≤ sizeLine ∧ Q .non (upd H d (.dK (mergeK kvs more)))
theorem length_merge : ∀ (more kvs : List (Key × V)), (mergeK kvs more).length ≤ kvs.length + more.length
  | [], kvs => by simp [mergeK]
  | p :: r, kvs => by
    have h1 := length_merge r (putK kvs p.1 p.2)
    have h2 := length_putK kvs p.1 p.2
    show (mergeK (putK kvs p.1 p.2) r).length ≤ _
    rw [List.length_cons]; (first | lia | omega)
theorem mt_update : MtM X "dict.update" rUpdate := by
  intro pins s σ H x vs v us Q I rx rv h
  obtain ⟨d, o, kvs, more, rfl, rfl, hdo, hd, ho, hz, q⟩ := h
  cases rx
  obtain ⟨u, rfl, ru⟩ := rv.one
  cases ru
  obtain ⟨z1, hs1, vs1, rel1, dd1⟩ := dk_of I.hok hd
  obtain ⟨z2, hs2, vs2, rel2, dd2⟩ := dk_of I.hok ho
  refine call_meetsIn PySem.F.slot_dict_update dd1.typeIs PySem.F.entry_dict_update (PySem.F.args_dict_update_2 _ _) (meets_dict_update (mixKind X.prog X.w) d o hdo hs2)
    ⟨vs1, vs2, dd1, dd2, by rw [← rel1.length, ← rel2.length]; exact hz, fun h' dd' _ hs => ?_⟩
  have hl : (mergeK kvs more).length ≤ sizeLine := Nat.le_trans (length_merge more kvs) hz
  have he : ∃ q, h'.get? d = some q := let ⟨q, _, _, hq, _⟩ := dd'; ⟨q, hq⟩
  exact ⟨.non, _, d_write (t' := s.toks) I (by rw [hd]; exact True.intro) hs he (dk_new hl hs1 (rel2.merge rel1) dd'), rfl, q⟩
theorem mUpdate : RMt X "dict.update" rUpdate := .mk mt_update
end
end L3
namespace HT
open PySem PyProof.Rows
section
open PySem.SeqAt
open PySem.AutoSeq1 (wpAny_loadPart')
open PySem.MeetsSeq PySem.MeetsSeq2 PySem.MeetsSeq3
end
section
variable {prog : Program} {w : World} {A : Around} {E : Value → Shared → Prop} {s : Shared}
end
end HT
namespace L3
open PySem PySem.Spec PyProof.Rows L2
section
variable {X : Cx}
end
end L3
namespace HT
open PySem PyProof.Rows
section
variable {prog : Program} {w : World} {A : Around} {R : Result → Shared → Prop} {I : Addr} {fp wr : List Addr} {n : Nat} {P : Nat → Value → Prop} {St : Nat → Heap → Prop} {K : Type} [DecidableEq K] {knd : KeyKind prog w K}
end
section
variable {prog : Program} {w : World} {A : Around} {E : Value → Shared → Prop} {s : Shared} {K : Type} [DecidableEq K] {knd : KeyKind prog w K}
end
end HT
namespace L3
open PySem PySem.Spec PyProof.Rows L2
section
variable {X : Cx}
end
end L3
namespace L3
open PySem PySem.Spec PyProof.Rows L2
section
variable {X : Cx} {pins : List (Addr × Obj)} {σ : L2.St} {H : Hp} {s : Shared} {h' : Heap}
theorem _root_.L2.Inv.turnedL {t' : Nat} {its : List Addr} (I : Inv X pins σ H s) (k : ∀ b o, b ∉ its → s.heap.get? b = some o → h'.get? b = some o) (hf : ∀ b ∈ its, FpOk X pins H b) : Inv X pins σ H { s with heap := h', toks := t' } := by
  have nit : ∀ b u, H b = some u → b ∉ its := fun b u e z => by rw [(hf b z).1] at e; cases e
  have hL : X.env.locals ∉ its := fun z => (hf _ z).2.1 rfl
  refine I.step (g' := s.gens) (d' := s.drawn) (ch := its) (fun b hb => ?_) (fun b o _ _ hc e _ => k b o hc e) (fun b o _ _ hc e _ => ⟨o.slots, k b o hc e⟩) (fun _ _ _ _ n => n)
    (fun b o hc e => ⟨o, k b o hc e⟩) (fun _ _ e => e) (fun _ _ _ e => e) (fun b ps e => ⟨#[], by rw [e]; simp⟩) (fun m hm => ?_) (fun b u e => ?_) I.bare
  · obtain ⟨_, h1, _, h2, h3, h4⟩ := hf b hb
    exact ⟨h2, h1, h3, h4⟩
  · obtain ⟨o, es, ep, ho, r⟩ := hm
    exact ⟨o, es, ep, k _ o hL ho, r⟩
  · refine (I.hok b u e).stay (fun c v hc q => k c v ?_ q) (fun _ q => q) fun _ _ q => q
    rcases hc with z | z
    · rw [z]; exact nit b u e
    · exact nit c _ z
end
noncomputable def Ite (K : PySem.W.Frag) (a : Addr) : It :=
  ⟨fun i H => ∃ xs x, SqL K H a xs ∧ xs[i]? = some x, fun i H v H' => ∃ x T, (∀ xs, SqL K H a xs → xs[i]? = some x) ∧ v = .ref T ∧ H T = none ∧ H' = upd H T (.tup [.int i, x]), fun i H => ∃ xs, SqL K H a xs ∧ xs.length ≤ i⟩
theorem fpOk_upd {X : Cx} {pins : List (Addr × Obj)} {H : Hp} {T b : Addr} {o : HO} (h : FpOk X pins H b) (hb : b ≠ T) : FpOk X pins (upd H T o) b := by
  obtain ⟨h1, r⟩ := h
  exact ⟨by rw [upd_ne hb]; exact h1, r⟩
theorem turn_enum {P : Program} {w : World} {K : PySem.W.Frag} {elts : List Expr} {kk : Nat} {tp : Pos} (a e it : Addr) (hei : e ≠ it) : Turn P w K (.Tuple elts kk tp) (Ite K a) [e, it] e (fun i h => (∃ old, IsEnum h e it i old) ∧ h.IsListIter it a i) where
  mem := by simp
  obj := fun i h st b hb => by
    obtain ⟨⟨old, he⟩, o, hi, c, d⟩ := st
    simp only [List.mem_cons, List.not_mem_nil, or_false] at hb
    rcases hb with rfl | rfl
    · exact ⟨_, he, fun v z => by cases z⟩
    · exact ⟨o, hi, fun v z => by rw [d] at z; cases z⟩
  keep := fun i h h' st k => by
    obtain ⟨⟨old, he⟩, hi⟩ := st
    exact ⟨⟨old, k e (by simp) _ he⟩, hi.at fun o x => k it (by simp) o x⟩
  item := by
    intro X hP hw hK hc i pins s σ H E I hf st hg
    subst hP hw hK
    obtain ⟨xs, x, hq, hx⟩ := hg
    obtain ⟨its, rv, p, hz⟩ := I.list hq
    obtain ⟨u, hu, ru⟩ := rv.get hx
    obtain ⟨⟨old, he⟩, hit⟩ := st
    have helt : e < s.heap.objs.size := Heap.lt_size he
    have hilt : it < s.heap.objs.size := by obtain ⟨_, y, _⟩ := hit; exact Heap.lt_size y
    have hfe := hf e (by simp)
    have hfi := hf it (by simp)
    refine wpAny_pyNext_enum_item he hit p.isList (x := u) (by simpa using hu) hei fun h1 ho hit1 hT hsz hk => ?_
    refine ⟨_, rfl, ?_⟩
    refine wpAny_letOwnedTupleGo_enum (s := { s with heap := h1, toks := s.toks + 1 }) ho fun h2 he2 hs2 => ?_
    have hfr : H s.heap.objs.size = none := I.hok.fresh (Nat.le_refl _)
    have I1 : Inv X pins σ (upd H s.heap.objs.size (.tup [.int i, x])) { s with heap := s.heap.push { cls := .type "tuple", data := .seq #[.int i s.toks, u] }, toks := s.toks + 1 } :=
      I.laid (t' := s.toks + 1) (o := .tup [.int i, x]) (fun b o q => Heap.get?_push_of_some _ q) (Nat.le_refl _) ⟨(show 2 ≤ sizeLine by decide), [.int i s.toks, u], .cons ⟨s.toks, rfl⟩ (.cons ru .nil), IsTup.new _ _⟩
    have hT2 : h2.get? s.heap.objs.size = some { cls := .type "tuple", data := .seq #[.int i s.toks, u] } := (hs2.2 _ (Nat.ne_of_gt helt)).trans hT
    have I2 : Inv X pins σ (upd H s.heap.objs.size (.tup [.int i, x])) { s with heap := h2, toks := s.toks + 1 } := by
      refine L2.Inv.turnedL (s := { s with heap := s.heap.push { cls := .type "tuple", data := .seq #[.int i s.toks, u] }, toks := s.toks + 1 }) (its := [e, it]) (t' := s.toks + 1) (h' := h2) I1 (fun b o hb q => ?_) (fun b hb => ?_)
      · simp only [List.mem_cons, List.not_mem_nil, or_false, not_or] at hb
        rcases Nat.lt_or_ge b s.heap.objs.size with hlt | hge
        · have q' : s.heap.get? b = some o := by
            rw [Heap.get?_push_ne _ _ _ (Nat.ne_of_lt hlt)] at q; exact q
          exact (hs2.2 b hb.1).trans (hk b o hb.1 hb.2 q')
        · have hlt2 := Heap.lt_size q
          rw [Heap.size_push] at hlt2
          have hbe : b = s.heap.objs.size := Nat.le_antisymm (Nat.le_of_lt_succ hlt2) hge
          subst hbe
          rw [Heap.get?_push_size _ rfl] at q
          cases q
          exact hT2
      · simp only [List.mem_cons, List.not_mem_nil, or_false] at hb
        rcases hb with rfl | rfl
        · exact fpOk_upd hfe (Nat.ne_of_lt helt)
        · exact fpOk_upd hfi (Nat.ne_of_lt hilt)
    refine ⟨.ref s.heap.objs.size, _, I2, rfl, ⟨x, _, fun ys hy => by rw [I.list_inj hy hq]; exact hx, rfl, hfr, rfl⟩, ⟨⟨u, by simpa using he2⟩, hit1.at fun o y => (hs2.2 it (Ne.symm hei)).trans y⟩, fun b hb => ?_⟩
    simp only [List.mem_cons, List.not_mem_nil, or_false] at hb
    rcases hb with rfl | rfl
    · rw [upd_ne (Nat.ne_of_lt helt)]; exact hfe.1
    · rw [upd_ne (Nat.ne_of_lt hilt)]; exact hfi.1
  done := by
    intro X hP hw hK hc i pins s σ H E I hf st hg
    subst hP hw hK
    obtain ⟨xs, hq, hx⟩ := hg
    obtain ⟨its, rv, p, hz⟩ := I.list hq
    obtain ⟨⟨old, he⟩, hit⟩ := st
    have hl := rv.length
    refine wpAny_pyNext_enum_end (I.ok.hd hc) he hit p.isList (by simp; (first | lia | omega)) fun h' eb => ⟨rfl, ?_⟩
    exact I.turnedL (its := [e, it]) (t' := s.toks) (fun b o hb q => eb b o (fun z => hb (by simp [z])) q) hf
  self := fun _ _ _ _ _ st h => by
    obtain ⟨⟨old, he⟩, _⟩ := st
    exact wpAny_pyIter_enum he h
section
variable {X : Cx}
noncomputable def iEnum (ta : TA) (K : PySem.W.Frag) : TI := fun σ H R => ta σ H fun vs H1 => ∃ a xs, vs = [.ref a] ∧ H1 a = some (.lst xs) ∧ R (Ite K a) H1
theorem bt_enumerate' : bootBuiltins "enumerate" = some (.type "enumerate") := by decide +kernel
theorem pi_enum {elts : List Expr} {kk : Nat} {tp : Pos} {a : Expr} {ta : TA} {p pos : Pos} (hg : Gl X "enumerate") (hm : X.mg "enumerate" = none) (ha : PA X [a] ta) (hs : starEach [a] X.env = [(false, eval a X.env)]) : PI X (.Tuple elts kk tp) (.Call (.Name "enumerate" p) [a] [] pos) (iEnum ta X.K) := by
  intro pins s σ H R I h
  refine Call_ (ld_blt I hg hm bt_enumerate' (PyProof.Rows.callWith_type1 (thn (ha pos pins s σ H _ I h) fun us s1 ⟨vs, H1, I1, r1, q1⟩ => ?_) hs rfl))
  obtain ⟨l, xs, e, hl, q⟩ := q1
  subst e
  cases r1 with
  | cons r rr =>
    cases rr
    cases r
    obtain ⟨z, its, n, rv, ho⟩ := I1.hok l _ hl
    refine call_enumerate_1 ho fun h' he hi hsz hk => ?_
    refine wpAny_pyIter_enum he ?_
    have I2 : Inv X pins σ H1 { s1 with heap := h' } := I1.kept (t' := s1.toks) hk
    refine ⟨s1.heap.objs.size + 1, [s1.heap.objs.size + 1, s1.heap.objs.size], _, _, H1, rfl, I2, turn_enum l _ _ (Nat.succ_ne_self _), ⟨⟨_, he⟩, hi⟩, fun b hb => ?_, q⟩
    simp only [List.mem_cons, List.not_mem_nil, or_false] at hb
    rcases hb with rfl | rfl
    · exact I1.fpOk (Nat.le_succ _) (I1.hok.fresh (Nat.le_succ _))
    · exact I1.fpOk (Nat.le_refl _) (I1.hok.fresh (Nat.le_refl _))
theorem ienum {elts : List Expr} {kk : Nat} {tp : Pos} {a : Expr} {ta : TA} {p pos : Pos} (K : PySem.W.Frag) (hg : Gl X "enumerate") (hm : X.mg "enumerate" = none) (ha : QA X [a] ta) (h : notStar a = true := by rfl) (hK : X.K = K := by rfl) : QI X (.Tuple elts kk tp) (.Call (.Name "enumerate" p) [a] [] pos) (iEnum ta K) := by
  subst hK
  exact .mk (pi_enum hg hm ha.un (by rw [star_cons h, star_nil]))
theorem for_enum {K : PySem.W.Frag} {a : Addr} {xs : List V} {g : TG} {tb : TS} {D : Ends} {σ : L2.St} {H : Hp} (Pv : Nat → L2.St → Hp → Prop) (h0 : Pv 0 σ H) (hl : ∀ i σ H, i ≤ xs.length → Pv i σ H → H a = some (.lst xs))
    (hs : ∀ i x σ H T, xs[i]? = some x → Pv i σ H → H T = none → g (.ref T) σ (upd H T (.tup [.int i, x])) fun σ2 H2 => tb { D with nx := Pv (i + 1), ct := Pv (i + 1), bk := D.nx } σ2 H2) (hd : ∀ σ H, Pv xs.length σ H → D.nx σ H) :
    ∃ W : Nat → Nat → L2.St → Hp → Prop, (∃ m, W 0 m σ H) ∧ ∀ i m σ H, W i m σ H →
      ((Ite K a).stop i H ∧ D.nx σ H) ∨ ((Ite K a).go i H ∧ ∃ N : L2.St → Hp → Prop, (∀ σ' H', N σ' H' → ∃ m', m' < m ∧ W (i + 1) m' σ' H') ∧ ∀ x H', (Ite K a).yld i H x H' → g x σ H' fun σ2 H2 => tb { D with nx := N, ct := N, bk := D.nx } σ2 H2) := by
  refine ⟨fun i m σ H => m = xs.length - i ∧ i ≤ xs.length ∧ Pv i σ H, ⟨xs.length, by simp, Nat.zero_le _, h0⟩, ?_⟩
  rintro i m σ H ⟨rfl, hi, p⟩
  have q := hl i σ H hi p
  by_cases hlt : i < xs.length
  · refine .inr ⟨⟨xs, xs[i], SqL.of q, by simp [hlt]⟩, Pv (i + 1), fun σ' H' p' => ⟨xs.length - (i + 1), by (first | lia | omega), rfl, hlt, p'⟩, fun x H' y => ?_⟩
    obtain ⟨y, T, hy, rfl, hT, rfl⟩ := y
    exact hs i y σ H T (hy xs (SqL.of q)) p hT
  · have e : i = xs.length := by (first | lia | omega)
    subst e
    exact .inl ⟨⟨xs, SqL.of q, Nat.le_refl _⟩, hd σ H p⟩
end
end L3
namespace L3
open PySem PySem.Spec PyProof.Rows L2
section
variable {X : Cx}
variable {o e f : Expr} {apos cpos : Pos} {td ty tx : TE} {k : Nat} {A : Around}
end
end L3
namespace L3
open PySem PySem.Spec PyProof.Rows L2
section
variable {X : Cx} {tg : Expr}
variable {g : TG} {tt : TT} {te : TE} {acc : Addr} {σ0 : L2.St} {H0 : Hp} {Q : Hp → Prop}
end
end L3
namespace L3
open PySem PySem.Spec PyProof.Rows L2
section
variable {X : Cx}
noncomputable def rMin2 : List V → Hp → VK → Prop := fun xs H Q => ∃ i j, xs = [.int i, .int j] ∧ Q (.int (if j < i then j else i)) H
theorem fMin2 (hc : X.calm = true := by rfl) : RCall X (.builtin "min") rMin2 := .mk (call_min2 hc)
end
section
variable {X : Cx}
end
end L3
namespace L3
inductive Tr where
  | nil
  | node (l : Tr) (k : Int) (r : Tr)
namespace Tr
noncomputable def d : Tr → D
  | nil => .non
  | node l k r => .tup [l.d, .int k, r.d]
noncomputable def ht : Tr → Nat
  | nil => 0
  | node l _ r => max l.ht r.ht + 1
noncomputable def size : Tr → Nat
  | nil => 0
  | node l _ r => l.size + 1 + r.size
noncomputable def keys : Tr → List Int
  | nil => []
  | node l k r => l.keys ++ [k] ++ r.keys
noncomputable def ins (x : Int) : Tr → Tr
  | nil => node nil x nil
  | node l k r => if x < k then node (l.ins x) k r else node l k (r.ins x)
noncomputable def build (xs : List Int) : Tr := xs.foldl (fun t x => t.ins x) nil
noncomputable def ord : Tr → Option Int → Option Int → Prop
  | nil, _, _ => True
  | node l k r, lo, hi => (∀ a, lo = some a → a < k) ∧ (∀ b, hi = some b → k < b) ∧ l.ord lo (some k) ∧ r.ord (some k) hi
theorem ht_size : ∀ t : Tr, t.ht ≤ t.size
  | nil => Nat.le_refl _
  | node l k r => by have := ht_size l; have := ht_size r; simp only [ht, size]; (first | lia | omega)
theorem keys_length : ∀ t : Tr, t.keys.length = t.size
  | nil => rfl
  | node l k r => by simp only [keys, size, List.length_append, List.length_singleton, keys_length l, keys_length r]
theorem ins_size (x : Int) : ∀ t : Tr, (t.ins x).size = t.size + 1
  | nil => rfl
  | node l k r => by
    unfold ins
    split
    · simp only [size, ins_size x l]; (first | lia | omega)
    · simp only [size, ins_size x r]; (first | lia | omega)
theorem mem_ins (x y : Int) : ∀ t : Tr, y ∈ (t.ins x).keys ↔ y = x ∨ y ∈ t.keys
  | nil => by simp [ins, keys]
  | node l k r => by
    unfold ins
    split
    · simp only [keys, List.mem_append, List.mem_singleton, mem_ins x y l]; grind
    · simp only [keys, List.mem_append, List.mem_singleton, mem_ins x y r]; grind
theorem ins_ord (x : Int) : ∀ (t : Tr) (lo hi : Option Int), t.ord lo hi → x ∉ t.keys → (∀ a, lo = some a → a < x) → (∀ b, hi = some b → x < b) → (t.ins x).ord lo hi
  | nil, lo, hi, _, _, h1, h2 => ⟨h1, h2, trivial, trivial⟩
  | node l k r, lo, hi, h, hx, h1, h2 => by
    obtain ⟨a1, a2, a3, a4⟩ := h
    simp only [keys, List.mem_append, List.mem_singleton, not_or] at hx
    unfold ins
    split
    · exact ⟨a1, a2, ins_ord x l lo (some k) a3 hx.1.1 h1 (fun b e => by cases e; assumption), a4⟩
    · refine ⟨a1, a2, a3, ins_ord x r (some k) hi a4 hx.2 (fun a e => ?_) h2⟩
      cases e
      have := hx.1.2
      (first | lia | omega)
theorem foldl_ins : ∀ (xs : List Int) (t : Tr), (∀ lo hi, lo = none → hi = none → t.ord lo hi) → xs.Nodup → (∀ x ∈ xs, x ∉ t.keys) →
    (xs.foldl (fun t x => t.ins x) t).ord none none ∧ (xs.foldl (fun t x => t.ins x) t).size = t.size + xs.length ∧ ∀ y, y ∈ (xs.foldl (fun t x => t.ins x) t).keys ↔ y ∈ xs ∨ y ∈ t.keys
  | [], t, h, _, _ => ⟨h none none rfl rfl, by simp, by simp⟩
  | x :: r, t, h, hn, hx => by
    rw [List.foldl_cons]
    obtain ⟨h1, h2⟩ := List.nodup_cons.mp hn
    obtain ⟨b1, b2, b3⟩ := foldl_ins r (t.ins x) (fun lo hi e1 e2 => by subst e1 e2; exact ins_ord x t none none (h none none rfl rfl) (hx x List.mem_cons_self) (by simp) (by simp)) h2 (fun y hy => by
      rw [mem_ins]
      rintro (e | e)
      · subst e; exact h1 hy
      · exact hx y (List.mem_cons_of_mem _ hy) e)
    refine ⟨b1, by rw [b2, ins_size, List.length_cons]; (first | lia | omega), fun y => ?_⟩
    rw [b3, mem_ins, List.mem_cons]
    grind
theorem build_ok {xs : List Int} (h : xs.Nodup) : (build xs).ord none none ∧ (build xs).size = xs.length ∧ ∀ y, y ∈ (build xs).keys ↔ y ∈ xs := by
  obtain ⟨h1, h2, h3⟩ := foldl_ins xs nil (fun _ _ _ _ => trivial) h (by simp [keys])
  exact ⟨h1, by simpa [size, build] using h2, fun y => by simpa [keys, build] using h3 y⟩
end Tr
noncomputable def knot : D → Option (D × Int × D)
  | .tup [l, .int k, r] => some (l, k, r)
  | _ => none
theorem nodup_append_of {xs ys : List Int} (hx : xs.Nodup) (hy : ys.Nodup) (h : ∀ x ∈ xs, ∀ y ∈ ys, x ≠ y) : (xs ++ ys).Nodup := List.nodup_append.mpr ⟨hx, hy, h⟩
theorem nodup_insert {xs : List Int} {x : Int} (i : Nat) (h : xs.Nodup) (hx : x ∉ xs) : (xs.take i ++ x :: xs.drop i).Nodup := by
  have hp : (xs.take i ++ x :: xs.drop i).Perm (x :: xs) := by
    have h1 : (xs.take i ++ x :: xs.drop i).Perm (x :: (xs.take i ++ xs.drop i)) := List.perm_middle
    rw [List.take_append_drop] at h1
    exact h1
  exact hp.nodup_iff.mpr (List.nodup_cons.mpr ⟨hx, h⟩)
theorem mem_insert {xs : List Int} {x y : Int} (i : Nat) : y ∈ xs.take i ++ x :: xs.drop i ↔ y = x ∨ y ∈ xs := by
  have hp : (xs.take i ++ x :: xs.drop i).Perm (x :: xs) := by
    have h1 : (xs.take i ++ x :: xs.drop i).Perm (x :: (xs.take i ++ xs.drop i)) := List.perm_middle
    rw [List.take_append_drop] at h1
    exact h1
  rw [hp.mem_iff, List.mem_cons]
theorem nodup_map_key {xs : List Int} {f : Int → Int} (h : xs.Nodup) (hf : ∀ a ∈ xs, ∀ b ∈ xs, f a = f b → a = b) : (xs.map f).Nodup := by
  induction xs with
  | nil => exact List.nodup_nil
  | cons x r ih =>
    obtain ⟨h1, h2⟩ := List.nodup_cons.mp h
    rw [List.map_cons]
    refine List.nodup_cons.mpr ⟨fun m => ?_, ih h2 fun a ha b hb => hf a (List.mem_cons_of_mem _ ha) b (List.mem_cons_of_mem _ hb)⟩
    obtain ⟨y, hy, e⟩ := List.mem_map.mp m
    have := hf y (List.mem_cons_of_mem _ hy) x List.mem_cons_self e
    subst this
    exact h1 hy
theorem Tr.size_foldl : ∀ (xs : List Int) (t : Tr), (xs.foldl (fun t x => t.ins x) t).size = t.size + xs.length
  | [], t => by simp
  | x :: r, t => by rw [List.foldl_cons, Tr.size_foldl r, Tr.ins_size, List.length_cons]; (first | lia | omega)
noncomputable def upN (n : Nat) : List Int := (List.range n).map fun k : Nat => (k : Int)
theorem upN_length (n : Nat) : (upN n).length = n := by simp [upN]
theorem mem_upN {n : Nat} {x : Int} : x ∈ upN n ↔ 0 ≤ x ∧ x < n := by
  unfold upN
  simp only [List.mem_map, List.mem_range]
  constructor
  · rintro ⟨k, hk, rfl⟩; (first | lia | omega)
  · rintro ⟨h1, h2⟩; exact ⟨x.toNat, by (first | lia | omega), by (first | lia | omega)⟩
theorem upN_nodup (n : Nat) : (upN n).Nodup := by
  unfold upN
  rw [List.Nodup, List.pairwise_map]
  exact List.Pairwise.imp (fun h e => h (by (first | lia | omega))) List.nodup_range
structure Ranks (n : Nat) (xs : List Int) : Prop where
  nd : xs.Nodup
  bd : ∀ x ∈ xs, 0 ≤ x ∧ x < n
  len : xs.length = n
theorem ranks_up (n : Nat) : Ranks n (upN n) := ⟨upN_nodup n, fun _ h => mem_upN.mp h, upN_length n⟩
theorem ranks_down (n : Nat) : Ranks n (upN n).reverse := ⟨(List.reverse_perm _).nodup_iff.mpr (upN_nodup n), fun _ h => mem_upN.mp (List.mem_reverse.mp h), by rw [List.length_reverse, upN_length]⟩
noncomputable def inOut (n k : Int) : Int := if k % 2 = 0 then k / 2 else n - 1 - k / 2
theorem ranks_inOut (n : Nat) : Ranks n ((upN n).map (inOut n)) := by
  refine ⟨nodup_map_key (upN_nodup n) fun a ha b hb e => ?_, fun x h => ?_, by rw [List.length_map, upN_length]⟩
  · have := mem_upN.mp ha
    have := mem_upN.mp hb
    unfold inOut at e
    split at e <;> split at e <;> (first | lia | omega)
  · obtain ⟨k, hk, rfl⟩ := List.mem_map.mp h
    have := mem_upN.mp hk
    unfold inOut
    split <;> (first | lia | omega)
structure Mids (lo hi : Int) (xs : List Int) : Prop where
  nd : xs.Nodup
  bd : ∀ x ∈ xs, lo ≤ x ∧ x < hi
  len : (xs.length : Int) = hi - lo
theorem mids_nil (lo : Int) : Mids lo lo [] := ⟨List.nodup_nil, by simp, by simp⟩
theorem mids_node {lo hi m : Int} {xs ys : List Int} (h1 : lo ≤ m) (h2 : m < hi) (hx : Mids lo m xs) (hy : Mids (m + 1) hi ys) : Mids lo hi ([m] ++ xs ++ ys) := by
  refine ⟨?_, fun x h => ?_, ?_⟩
  · refine nodup_append_of (nodup_append_of (by simp) hx.nd ?_) hy.nd ?_
    · intro a ha b hb e
      have := hx.bd b hb
      rw [List.mem_singleton] at ha
      (first | lia | omega)
    · intro a ha b hb e
      have := hy.bd b hb
      rcases List.mem_append.mp ha with ha | ha
      · rw [List.mem_singleton] at ha; (first | lia | omega)
      · have := hx.bd a ha; (first | lia | omega)
  · rcases List.mem_append.mp h with h | h
    · rcases List.mem_append.mp h with h | h
      · rw [List.mem_singleton] at h; (first | lia | omega)
      · have := hx.bd x h; (first | lia | omega)
    · have := hy.bd x h; (first | lia | omega)
  · have a := hx.len
    have b := hy.len
    simp only [List.length_append, List.length_singleton]
    (first | lia | omega)
theorem Mids.ranks {n : Nat} {xs : List Int} (h : Mids 0 n xs) : Ranks n xs := ⟨h.nd, fun x hx => h.bd x hx, by have := h.len; (first | lia | omega)⟩
theorem ranks_insert {k : Nat} {xs : List Int} (h : Ranks k xs) (i : Nat) : Ranks (k + 1) (xs.take i ++ (k : Int) :: xs.drop i) := by
  refine ⟨nodup_insert i h.nd fun m => ?_, fun x m => ?_, ?_⟩
  · have := h.bd _ m; (first | lia | omega)
  · rcases (mem_insert i).mp m with e | m
    · (first | lia | omega)
    · have := h.bd x m; (first | lia | omega)
  · have := h.len
    simp only [List.length_append, List.length_take, List.length_cons, List.length_drop]
    (first | lia | omega)
theorem ranks_zero : Ranks 0 [] := ⟨List.nodup_nil, by simp, rfl⟩
theorem sq_inj {a b : Int} (ha : 0 ≤ a) (hb : 0 ≤ b) (h : a * a = b * b) : a = b := by
  rcases Int.lt_trichotomy a b with l | e | l
  · have h1 : a * a ≤ a * b := Int.mul_le_mul_of_nonneg_left (Int.le_of_lt l) ha
    have h2 : a * b < b * b := Int.mul_lt_mul_of_pos_right l (by (first | lia | omega))
    (first | lia | omega)
  · exact e
  · have h1 : b * b ≤ b * a := Int.mul_le_mul_of_nonneg_left (Int.le_of_lt l) hb
    have h2 : b * a < a * a := Int.mul_lt_mul_of_pos_right l (by (first | lia | omega))
    (first | lia | omega)
theorem key_inj {first gap x y : Int} (hg : 0 < gap) (h : first + gap * x = first + gap * y) : x = y := by
  have h1 : gap * x = gap * y := by (first | lia | omega)
  exact Int.eq_of_mul_eq_mul_left (by (first | lia | omega)) h1
noncomputable def keyOf (first gap : Int) (bent : Int) (r : Int) : Int := first + gap * (if bent = 0 then r else r * r)
theorem keys_nodup {n : Nat} {xs : List Int} (h : Ranks n xs) {first gap bent : Int} (hg : 0 < gap) : (xs.map (keyOf first gap bent)).Nodup := by
  refine nodup_map_key h.nd fun a ha b hb e => ?_
  have h1 := (h.bd a ha).1
  have h2 := (h.bd b hb).1
  unfold keyOf at e
  have e := key_inj hg e
  split at e
  · exact e
  · exact sq_inj h1 h2 e
theorem keyOf_bound {first gap bent r : Int} (h1 : -(10 ^ 59) ≤ first) (h2 : first ≤ 10 ^ 59) (h3 : 0 < gap) (h4 : gap ≤ 10 ^ 56) (h5 : 0 ≤ r) (h6 : r ≤ 61) : -(10 ^ 61) < keyOf first gap bent r ∧ keyOf first gap bent r < 10 ^ 61 := by
  unfold keyOf
  have hz : 0 ≤ (if bent = 0 then r else r * r) ∧ (if bent = 0 then r else r * r) ≤ 4000 := by
    split
    · (first | lia | omega)
    · have a1 : 0 ≤ r * r := Int.mul_nonneg h5 h5
      have a2 : r * r ≤ 61 * r := Int.mul_le_mul_of_nonneg_right h6 h5
      (first | lia | omega)
  generalize (if bent = 0 then r else r * r) = z at hz
  have b1 : 0 ≤ gap * z := Int.mul_nonneg (by (first | lia | omega)) hz.1
  have b2 : gap * z ≤ gap * 4000 := Int.mul_le_mul_of_nonneg_left hz.2 (by (first | lia | omega))
  (first | lia | omega)
end L3
namespace L3
noncomputable def maxI : List Int → Int
  | [] => 0
  | [a] => a
  | a :: r => max a (maxI r)
noncomputable def ruleM (ks : List (Int × Int)) (room : Int) : Int × Int :=
  if ks = [] then (1, 1) else
    let lv := maxI (ks.map (·.1))
    let sz := 1 + ((ks.filter fun p => decide (p.1 = lv)).map (·.2)).sum
    if sz ≤ room then (lv, sz) else (lv + 1, 1)
namespace Tr
noncomputable def mark (room : Int) : Tr → Int × Int
  | nil => (0, 0)
  | node l _ r => ruleM ((match l with | nil => [] | node .. => [l.mark room]) ++ (match r with | nil => [] | node .. => [r.mark room])) room
noncomputable def pt (room : Int) : Tr → List (Int × Int × Int)
  | nil => []
  | node l k r => l.pt room ++ r.pt room ++ [(k, (node l k r).mark room)]
end Tr
noncomputable abbrev Tab := List (Int × Int × Int)
noncomputable def look (tb : Tab) (k : Int) : Option (Int × Int) := (tb.find? fun e => decide (e.1 = k)).map (·.2)
namespace Tr
end Tr
noncomputable def Tr.sub (t : Tr) : List Tr := match t with
  | .nil => []
  | .node .. => [t]
end L3
namespace L3
open PySem L2
noncomputable def PenAt (H : Hp) (p : Addr) : Prop := ∃ m n, H p = some (.lst [.int m, .int n])
theorem PenAt.mono {H H' : Hp} {p : Addr} (h : PenAt H p) (s : Same H H') : PenAt H' p := by
  obtain ⟨m, n, e⟩ := h
  exact ⟨m, n, s _ _ e⟩
theorem PenAt.ne {H : Hp} {p l : Addr} (h : PenAt H p) (e : H l = none) : l ≠ p := by
  obtain ⟨m, n, q⟩ := h
  intro z
  rw [z, q] at e; cases e
theorem PenAt.free {H H' : Hp} {p l : Addr} (h : PenAt H' p) (s : Same (rm p H) H') (e : H' l = none) : H l = none := by
  obtain ⟨m, n, q⟩ := h
  exact rm_free s e q
noncomputable def vO : Option Int → V
  | none => .non
  | some i => .int i
theorem rep_node {H : Hp} {v : V} {l r : Tr} {k : Int} (h : Rep H v (Tr.node l k r).d) : ∃ a vl vr, v = .ref a ∧ H a = some (.tup [vl, .int k, vr]) ∧ Rep H vl l.d ∧ Rep H vr r.d := by
  cases h with
  | @tup a vs xs e rs =>
    cases rs with
    | cons h1 r1 =>
      cases r1 with
      | cons h2 r2 =>
        cases r2 with
        | cons h3 r3 =>
          cases r3
          cases h2
          exact ⟨a, _, _, rfl, e, h1, h3⟩
theorem rep_nil {H : Hp} {v : V} (h : Rep H v Tr.nil.d) : v = .non := by cases h; rfl
theorem rep_mk {H : Hp} {a : Addr} {vl vr : V} {k : Int} {l r : D} (e : H a = some (.tup [vl, .int k, vr])) (h1 : Rep H vl l) (h2 : Rep H vr r) : Rep H (.ref a) (.tup [l, .int k, r]) := .tup e (.cons h1 (.cons (.int k) (.cons h2 .nil)))
theorem rep_tup {H : Hp} {v : V} {xs : List D} (h : Rep H v (.tup xs)) : ∃ a vs, v = .ref a ∧ H a = some (.tup vs) ∧ Reps H vs xs := by
  cases h with
  | tup e r => exact ⟨_, _, rfl, e, r⟩
theorem rep_rm {H : Hp} {p : Addr} {vs : List V} (hp : H p = some (.lst vs)) : ∀ (t : Tr) {v : V}, Rep H v t.d → Rep (rm p H) v t.d
  | .nil, v, h => by cases rep_nil h; exact .non
  | .node l k r, v, h => by
    obtain ⟨a, vl, vr, rfl, ea, hl, hr⟩ := rep_node h
    exact rep_mk (by rw [rm_ne (fun z => by rw [z, hp] at ea; cases ea)]; exact ea) (rep_rm hp l hl) (rep_rm hp r hr)
theorem rep_pen {H : Hp} {p : Addr} (hp : PenAt H p) (t : Tr) {v : V} (h : Rep H v t.d) : Rep (rm p H) v t.d := by
  obtain ⟨m, n, e⟩ := hp
  exact rep_rm e t h
theorem erv {n : Int} : rangeVs 0 n = (upN n.toNat).map V.int := by
  unfold rangeVs upN
  rw [List.map_map, Int.sub_zero]
  apply List.map_congr_left
  intro k _
  show V.int (0 + (k : Int)) = V.int (k : Int)
  rw [Int.zero_add]
theorem upN_succ (i : Nat) : upN (i + 1) = upN i ++ [(i : Int)] := by
  unfold upN
  rw [List.range_succ, List.map_append]; rfl
theorem pures_ints : ∀ ns : List Int, pures (ns.map D.int) = true
  | [] => rfl
  | n :: r => by rw [List.map_cons, pures, pures_ints r]; rfl
theorem deps_ints : ∀ ns : List Int, deps (ns.map D.int) = 0
  | [] => rfl
  | n :: r => by rw [List.map_cons, deps, deps_ints r]; rfl
theorem rep_ints {H : Hp} {a : Addr} {ns : List Int} (h : H a = some (.lst (ns.map V.int))) : Rep H (.ref a) (.lst (ns.map D.int)) := .lst h (Reps.ints ns)
end L3
namespace L3
open PySem L2
inductive DT (H : Hp) : List (Key × V) → Tab → Prop where
  | nil : DT H [] []
  | cons {k lv sz : Int} {b : Addr} {kvs : List (Key × V)} {tb : Tab} : H b = some (.tup [.int lv, .int sz]) → DT H kvs tb → DT H ((Sum.inl k, .ref b) :: kvs) ((k, lv, sz) :: tb)
theorem DT.mono {H H' : Hp} {kvs : List (Key × V)} {tb : Tab} (h : DT H kvs tb) (s : Same H H') : DT H' kvs tb := by
  induction h with
  | nil => exact .nil
  | cons e _ ih => exact .cons (s _ _ e) ih
theorem DT.upd {H : Hp} {kvs : List (Key × V)} {tb : Tab} {d : Addr} {o o' : HO} (h : DT H kvs tb) (hd : H d = some o) (ho : ∀ vs, o ≠ .tup vs) : DT (L2.upd H d o') kvs tb := by
  induction h with
  | nil => exact .nil
  | cons e _ ih =>
    refine .cons ?_ ih
    rw [upd_ne (fun z => by rw [z, hd] at e; exact ho _ (Option.some.inj e))]
    exact e
theorem DT.length {H : Hp} {kvs : List (Key × V)} {tb : Tab} (h : DT H kvs tb) : kvs.length = tb.length := by
  induction h with
  | nil => rfl
  | cons _ _ ih => rw [List.length_cons, List.length_cons, ih]
theorem DT.append {H : Hp} {a b : List (Key × V)} {s t : Tab} (h : DT H a s) (h' : DT H b t) : DT H (a ++ b) (s ++ t) := by
  induction h with
  | nil => exact h'
  | cons e _ ih => exact .cons e ih
theorem DT.val {H : Hp} {kvs : List (Key × V)} {tb : Tab} (h : DT H kvs tb) {k : Int} {m : Int × Int} (e : look tb k = some m) : ∃ b, valV kvs (Sum.inl k : Key) = some (.ref b) ∧ H b = some (.tup [.int m.1, .int m.2]) := by
  induction h with
  | nil => simp [look] at e
  | @cons k' lv sz b kvs tb eb _ ih =>
    unfold look at e
    rw [List.find?_cons] at e
    by_cases hk : k' = k
    · subst hk
      simp at e
      subst e
      exact ⟨b, valV_pos rfl, eb⟩
    · simp only [hk, decide_false] at e
      obtain ⟨b', h1, h2⟩ := ih e
      exact ⟨b', by rw [valV_neg (by simpa using hk)]; exact h1, h2⟩
theorem DT.none {H : Hp} {kvs : List (Key × V)} {tb : Tab} (h : DT H kvs tb) {k : Int} (hk : k ∉ tb.map (·.1)) : valV kvs (Sum.inl k : Key) = Option.none := by
  induction h with
  | nil => rfl
  | @cons k' lv sz b kvs tb eb _ ih =>
    simp only [List.map_cons, List.mem_cons, not_or] at hk
    rw [valV_neg (by simpa using fun z => hk.1 z.symm)]
    exact ih hk.2
noncomputable def rowD (e : Int × Int × Int) : D := .tup [.int e.1, .int e.2.1, .int e.2.2]
end L3
namespace L3
open PySem L2
noncomputable def Pen3 (H : Hp) (p : Addr) : Prop := ∃ m n c, H p = some (.lst [.int m, .int n, .int c])
theorem Pen3.mono {H H' : Hp} {p : Addr} (h : Pen3 H p) (s : Same H H') : Pen3 H' p := by
  obtain ⟨m, n, c, e⟩ := h
  exact ⟨m, n, c, s _ _ e⟩
theorem Pen3.ne {H : Hp} {p l : Addr} (h : Pen3 H p) (e : H l = none) : l ≠ p := by
  obtain ⟨m, n, c, q⟩ := h
  intro z
  rw [z, q] at e; cases e
theorem ne_ints {H : Hp} {a b : Addr} {xs ys : List Int} {Q : VK} (ea : H a = some (.lst (xs.map V.int))) (eb : H b = some (.lst (ys.map V.int))) (h : Q (.bl (!decide (xs = ys))) H) : rNeG 150 (.ref a) (.ref b) H Q := by
  refine ⟨_, _, rep_ints ea, rep_ints eb, by rw [D.pure]; exact pures_ints xs, by rw [D.pure]; exact pures_ints ys, by rw [D.dep, deps_ints]; decide, ?_⟩
  by_cases he : xs = ys
  · subst he
    rw [D.eqv_refl]
    simpa using h
  · have hne : (D.lst (xs.map D.int)).eqv (.lst (ys.map D.int)) = false := eqv_ne (by rw [D.pure]; exact pures_ints xs) (by rw [D.pure]; exact pures_ints ys) (fun z => he (by
      injection z with z
      exact (List.map_inj_right (fun _ _ q => by injection q)).mp z))
    rw [hne]
    rw [decide_eq_false he] at h
    exact h
theorem eq_ints {H : Hp} {a b : Addr} {xs ys : List Int} {Q : VK} (ea : H a = some (.lst (xs.map V.int))) (eb : H b = some (.lst (ys.map V.int))) (h : Q (.bl (decide (xs = ys))) H) : rEqG 150 (.ref a) (.ref b) H Q := by
  refine ⟨_, _, rep_ints ea, rep_ints eb, by rw [D.pure]; exact pures_ints xs, by rw [D.pure]; exact pures_ints ys, by rw [D.dep, deps_ints]; decide, ?_⟩
  by_cases he : xs = ys
  · subst he
    rw [D.eqv_refl]
    simpa using h
  · have hne : (D.lst (xs.map D.int)).eqv (.lst (ys.map D.int)) = false := eqv_ne (by rw [D.pure]; exact pures_ints xs) (by rw [D.pure]; exact pures_ints ys) (fun z => he (by
      injection z with z
      exact (List.map_inj_right (fun _ _ q => by injection q)).mp z))
    rw [hne]
    rw [decide_eq_false he] at h
    exact h
theorem ne_same {H : Hp} {a b : Addr} {e : D} {Q : VK} (ra : Rep H (.ref a) e) (rb : Rep H (.ref b) e) (hp : e.pure = true) (hd : e.dep ≤ 140) (h : Q (.bl false) H) : rNeG 150 (.ref a) (.ref b) H Q := by
  refine ⟨_, _, ra, rb, hp, hp, by (first | lia | omega), ?_⟩
  rw [D.eqv_refl]; exact h
theorem inV_ints (k : Int) : ∀ ws : List Int, inV (.int k) (ws.map V.int) = decide (k ∈ ws)
  | [] => by simp [inV]
  | w :: ws => by
    have ih := inV_ints k ws
    unfold inV at ih ⊢
    rw [List.map_cons, List.any_cons, ih]
    by_cases h : w = k
    · subst h; simp [eqV]
    · have h' : ¬ k = w := fun z => h z.symm
      simp [eqV, h, h']
theorem flat_ints : ∀ ws : List Int, (ws.map V.int).all flatV = true
  | [] => rfl
  | w :: ws => by rw [List.map_cons, List.all_cons, flat_ints ws]; rfl
noncomputable def Pgs (H : Hp) : List Addr → List (List Int) → Prop
  | [], [] => True
  | b :: bs, p :: ps => H b = some (.lst (p.map V.int)) ∧ Pgs H bs ps
  | _, _ => False
theorem Pgs.stay {H H' : Hp} : ∀ {bs : List Addr} {ps : List (List Int)}, Pgs H bs ps → (∀ b ∈ bs, H' b = H b) → Pgs H' bs ps
  | [], [], _, _ => trivial
  | b :: bs, p :: ps, h, s => ⟨by rw [s b (by simp)]; exact h.1, h.2.stay (fun c hc => s c (by simp [hc]))⟩
  | [], _ :: _, h, _ => h.elim
  | _ :: _, [], h, _ => h.elim
theorem Pgs.mono {H H' : Hp} : ∀ {bs : List Addr} {ps : List (List Int)}, Pgs H bs ps → Same H H' → Pgs H' bs ps
  | [], [], _, _ => trivial
  | b :: bs, p :: ps, h, s => ⟨s _ _ h.1, h.2.mono s⟩
  | [], _ :: _, h, _ => h.elim
  | _ :: _, [], h, _ => h.elim
theorem Pgs.len {H : Hp} : ∀ {bs : List Addr} {ps : List (List Int)}, Pgs H bs ps → bs.length = ps.length
  | [], [], _ => rfl
  | b :: bs, p :: ps, h => by simp [h.2.len]
  | [], _ :: _, h => h.elim
  | _ :: _, [], h => h.elim
theorem Pgs.snoc {H : Hp} {b : Addr} {p : List Int} : ∀ {bs : List Addr} {ps : List (List Int)}, Pgs H bs ps → H b = some (.lst (p.map V.int)) → Pgs H (bs ++ [b]) (ps ++ [p])
  | [], [], _, e => ⟨e, trivial⟩
  | c :: bs, q :: ps, h, e => ⟨h.1, h.2.snoc e⟩
  | [], _ :: _, h, _ => h.elim
  | _ :: _, [], h, _ => h.elim
theorem Pgs.at {H : Hp} : ∀ {bs : List Addr} {ps : List (List Int)} {j : Nat} {b : Addr}, Pgs H bs ps → bs[j]? = some b → ∃ p, ps[j]? = some p ∧ H b = some (.lst (p.map V.int))
  | [], [], _, _, _, e => by simp at e
  | c :: bs, q :: ps, 0, b, h, e => by simp at e; subst e; exact ⟨q, rfl, h.1⟩
  | c :: bs, q :: ps, j + 1, b, h, e => by simpa using Pgs.at h.2 (j := j) (by simpa using e)
  | [], _ :: _, _, _, h, _ => h.elim
  | _ :: _, [], _, _, h, _ => h.elim
theorem Pgs.of {H : Hp} : ∀ {bs : List Addr} {ps : List (List Int)} {b : Addr}, Pgs H bs ps → b ∈ bs → ∃ p, p ∈ ps ∧ H b = some (.lst (p.map V.int))
  | [], [], _, _, e => by simp at e
  | c :: bs, q :: ps, b, h, e => by
    rcases List.mem_cons.mp e with rfl | e
    · exact ⟨q, by simp, h.1⟩
    · obtain ⟨p, h1, h2⟩ := Pgs.of h.2 e
      exact ⟨p, by simp [h1], h2⟩
  | [], _ :: _, _, h, _ => h.elim
  | _ :: _, [], _, h, _ => h.elim
end L3
namespace L3
open PySem L2
noncomputable def way (k : Int) : Tr → List Int
  | .nil => []
  | .node l x r => if x = k then [k] else x :: (if k < x then way k l else way k r)
noncomputable def at_ (k : Int) : Tr → Tr
  | .nil => .nil
  | .node l x r => if x = k then .node l x r else if k < x then at_ k l else at_ k r
theorem way_len (k : Int) : ∀ t : Tr, (way k t).length ≤ t.ht
  | .nil => Nat.le_refl _
  | .node l x r => by
    have h1 := way_len k l
    have h2 := way_len k r
    rw [way, Tr.ht]
    split
    · simp
    · rw [List.length_cons]
      split <;> (first | lia | omega)
theorem ord_bd : ∀ (t : Tr) (lo hi : Option Int), t.ord lo hi → ∀ y ∈ t.keys, (∀ a, lo = some a → a < y) ∧ ∀ b, hi = some b → y < b
  | .nil, lo, hi, _, y, hy => by simp [Tr.keys] at hy
  | .node l x r, lo, hi, h, y, hy => by
    obtain ⟨h1, h2, h3, h4⟩ := h
    simp only [Tr.keys, List.mem_append, List.mem_singleton] at hy
    rcases hy with (hy | hy) | hy
    · obtain ⟨g1, g2⟩ := ord_bd l lo (some x) h3 y hy
      refine ⟨g1, fun b hb => ?_⟩
      have := g2 x rfl
      have := h2 b hb
      (first | lia | omega)
    · subst hy; exact ⟨h1, h2⟩
    · obtain ⟨g1, g2⟩ := ord_bd r (some x) hi h4 y hy
      refine ⟨fun a ha => ?_, g2⟩
      have := g1 x rfl
      have := h1 a ha
      (first | lia | omega)
theorem ord_l {l r : Tr} {x : Int} {lo hi : Option Int} (h : (Tr.node l x r).ord lo hi) {y : Int} (hy : y ∈ l.keys) : y < x := (ord_bd l lo (some x) h.2.2.1 y hy).2 x rfl
theorem ord_r {l r : Tr} {x : Int} {lo hi : Option Int} (h : (Tr.node l x r).ord lo hi) {y : Int} (hy : y ∈ r.keys) : x < y := (ord_bd r (some x) hi h.2.2.2 y hy).1 x rfl
theorem ord_rise : ∀ (t : Tr) (lo hi : Option Int), t.ord lo hi → t.keys.Pairwise (· < ·)
  | .nil, _, _, _ => by simp [Tr.keys]
  | .node l x r, lo, hi, h => by
    have g1 := ord_rise l _ _ h.2.2.1
    have g2 := ord_rise r _ _ h.2.2.2
    rw [Tr.keys, List.append_assoc, List.pairwise_append]
    refine ⟨g1, ?_, fun a ha b hb => ?_⟩
    · rw [List.singleton_append, List.pairwise_cons]
      exact ⟨fun b hb => ord_r h hb, g2⟩
    · have := ord_l h ha
      rw [List.singleton_append] at hb
      rcases List.mem_cons.mp hb with rfl | hb
      · exact this
      · have := ord_r h hb; (first | lia | omega)
theorem way_sub (k : Int) : ∀ (t : Tr) (y : Int), y ∈ way k t → y ∈ t.keys
  | .nil, y, h => by simp [way] at h
  | .node l x r, y, h => by
    rw [way] at h
    rw [Tr.keys]
    split at h
    · rename_i hx
      simp at h
      subst h hx
      simp
    · rcases List.mem_cons.mp h with rfl | h
      · simp
      · split at h
        · have := way_sub k l y h; simp [this]
        · have := way_sub k r y h; simp [this]
theorem at_sub (k : Int) : ∀ (t : Tr) (y : Int), y ∈ (at_ k t).keys → y ∈ t.keys
  | .nil, y, h => h
  | .node l x r, y, h => by
    rw [at_] at h
    split at h
    · exact h
    · rw [Tr.keys]
      split at h
      · have := at_sub k l y h; simp [this]
      · have := at_sub k r y h; simp [this]
theorem at_node (k : Int) : ∀ (t : Tr) (lo hi : Option Int), t.ord lo hi → k ∈ t.keys → ∃ l r, at_ k t = .node l k r
  | .nil, _, _, _, h => by simp [Tr.keys] at h
  | .node l x r, lo, hi, h, hk => by
    rw [at_]
    split
    · rename_i hx; subst hx; exact ⟨l, r, rfl⟩
    · rename_i hx
      simp only [Tr.keys, List.mem_append, List.mem_singleton] at hk
      split
      · rename_i hlt
        refine at_node k l _ _ h.2.2.1 ?_
        rcases hk with (hk | hk) | hk
        · exact hk
        · exact absurd hk.symm hx
        · have := ord_r h hk; (first | lia | omega)
      · rename_i hlt
        refine at_node k r _ _ h.2.2.2 ?_
        rcases hk with (hk | hk) | hk
        · have := ord_l h hk; (first | lia | omega)
        · exact absurd hk.symm hx
        · exact hk
end L3
namespace L3
open PySem PySem.Spec PyProof.Rows L2
noncomputable def okIs : Option Key → Value → Bool
  | none, .none => true
  | some k, v => keyIs k v
  | _, _ => false
theorem okIs_none {v : Value} (h : okIs none v = true) : v = .none := by cases v <;> first | rfl | (simp [okIs] at h)
theorem keyIs_not_none (k : Key) : keyIs k .none = false := by cases k <;> rfl
theorem hash_none {prog : Program} {w : World} : ∃ c : Int, ∀ {A : Around} {E : Value → Shared → Prop} {s : Shared} {Q : Int → Shared → Prop}, Q c { s with toks := s.toks + 1 } → wpAny (model prog w) A (pyHash .none) Q E s :=
  ⟨_, fun h => PySem.W.pyHash_slot (T := "NoneType") rfl F.slot_NoneType_hash F.entry_NoneType_hash (F.args_NoneType_hash_1 _) (beq_builtin_none _) (.inl rfl) (wpAny_bind (wpAny_pure (wpAny_bind (wpAny_mkInt (wpAny_pure ⟨_, _, rfl, h⟩)))))⟩
noncomputable def optKind (prog : Program) (w : World) : PySem.KeyKind prog w (Option Key) where
  is := okIs
  hash := fun o => match o with | none => Classical.choose (hash_none (prog := prog) (w := w)) | some k => keyH w k
  inj := fun v a b ha hb => by
    cases a with
    | none =>
      have e := okIs_none ha
      subst e
      cases b with
      | none => rfl
      | some k => have := keyIs_not_none k; rw [show okIs (some k) .none = keyIs k .none from rfl, this] at hb; cases hb
    | some k =>
      cases b with
      | none =>
        have e := okIs_none hb
        subst e
        have := keyIs_not_none k; rw [show okIs (some k) .none = keyIs k .none from rfl, this] at ha; cases ha
      | some j => exact congrArg some ((mixKind prog w).inj v k j ha hb)
  byValue := fun k v h => by
    cases k with
    | none => have e := okIs_none h; subst e; rfl
    | some k => exact (mixKind prog w).byValue k v h
  pyHash := fun {A E s k v Q} hv h => by
    cases k with
    | none => have e := okIs_none hv; subst e; exact Classical.choose_spec (hash_none (prog := prog) (w := w)) h
    | some k => exact (mixKind prog w).pyHash (k := k) hv h
  eqBool := fun {A E s a b u v Q} hu hv h => by
    cases a with
    | none =>
      have e := okIs_none hu
      subst e
      cases b with
      | none => have e := okIs_none hv; subst e; exact SeqAt.EqAt.same _ _ _ _ _ (by simpa using h)
      | some k =>
        have h' : Q false s := by simpa using h
        rcases keyIs_shape hv with ⟨i, t, rfl, rfl⟩ | ⟨x, t, rfl, rfl⟩
        · exact SeqAt.EqAt.none_int i t _ _ _ _ h'
        · exact SeqAt.EqAt.none_str x t _ _ _ _ h'
    | some k =>
      cases b with
      | none =>
        have e := okIs_none hv
        subst e
        have h' : Q false s := by simpa using h
        rcases keyIs_shape hu with ⟨i, t, rfl, rfl⟩ | ⟨x, t, rfl, rfl⟩
        · exact SeqAt.EqAt.int_none i t _ _ _ _ h'
        · exact SeqAt.EqAt.str_none x t _ _ _ _ h'
      | some j =>
        refine (mixKind prog w).eqBool (a := k) (b := j) hu hv ?_
        have e : decide ((some k : Option Key) = some j) = decide (k = j) := by simp
        rw [← e]; exact h
  «strs» := fun k x t v h => by
    cases k with
    | none => cases okIs_none h
    | some k => exact (mixKind prog w).strs k x t v h
theorem find_none {es : Array DictEntry} {prog : Program} {w : World} (hk : KeysOf (mixKind prog w) es) : findBy okIs es none = none := by
  unfold findBy
  rw [Option.map_eq_none_iff, Array.find?_eq_none]
  intro e he q
  obtain ⟨k, h1, _⟩ := hk e he
  rw [okIs_none q] at h1
  have h1 : keyIs k .none = true := h1
  rw [keyIs_not_none] at h1; cases h1
theorem mapOf_opt {h : Heap} {a : Addr} {prog : Program} {w : World} {f : Key → Option Value} (m : h.MapOf (mixKind prog w) a f) : h.MapOf (optKind prog w) a (fun o => match o with | none => none | some k => f k) := by
  obtain ⟨o, es, ep, h1, h2, h3, h4, h5⟩ := m
  refine ⟨o, es, ep, h1, h2, h3, fun e he => ?_, fun k => ?_⟩
  · obtain ⟨k, g1, g2⟩ := h4 e he
    exact ⟨some k, g1, g2⟩
  · cases k with
    | none => exact find_none h4
    | some k => exact h5 k
noncomputable def DGetO (H : Hp) (a : Addr) (y : V) (o : Option V) : Prop := DGet H a y o ∨ (y = .non ∧ (∃ kvs, Rd H a (.dK kvs)) ∧ o = none)
section
variable {X : Cx} {pins : List (Addr × Obj)} {σ : L2.St} {H : Hp} {s : Shared} {a : Addr} {y d : V} {u r : Value} {o : Option V} {A : Around} {E : Value → Shared → Prop}
theorem d_getN2 {Q : Value → Shared → Prop} (hu : A.units + 1 < cLine) (I : Inv X pins σ H s) (g : DGetO H a y o) (ry : RelV y u) (rd : RelV d r) (h : ∀ w' s', Inv X pins σ H s' → RelV (o.getD d) w' → Q w' s') :
    wpAny (model X.prog X.w) A (call (.builtin "dict.get") [.ref a, u, r]) Q E s := by
  rcases g with g | ⟨rfl, ⟨kvs, e⟩, rfl⟩
  · exact d_get2 hu I g ry rd h
  · obtain ⟨z, hd, vs, rel, dd⟩ := dk_rd I.hok e
    have eu : u = Value.none := ry
    subst eu
    exact call_meetsIn PySem.F.slot_dict_get dd.typeIs PySem.F.entry_dict_get (PySem.F.args_dict_get_3 _ _ _) (meets_dict_get_default (optKind X.prog X.w) (k := none) a rfl hd r) ⟨_, mapOf_opt dd.mapOf, h _ _ (I.tok _) rd⟩
end
noncomputable def tDGetN2 (td ty tx : TE) : TE := fun σ H Q => td σ H fun x H1 => ∃ a, x = .ref a ∧ IsD H1 a ∧ ty σ H1 fun y H2 => tx σ H2 fun z H3 => ∃ o, DGetO H3 a y o ∧ Q (o.getD z) H3
section
variable {X : Cx} {o e f : Expr} {apos cpos : Pos} {td ty tx : TE}
theorem pe_dgetN2 (hu : X.A.units + 1 < cLine) (ho : PE X o td) (he : PE X e ty) (hf : PE X f tx) (m : M2 X o "get" apos e f cpos) : PE X (.Call (.Attribute o "get" apos) [e, f] [] cpos) (tDGetN2 td ty tx) := by
  intro pins s σ H Q I h
  refine wpAny_Call_method m.base m.few m.line PySem.F.plainAttrs_dict PySem.F.slot_dict_get PySem.F.type_dict_get (thn (ho pins s σ H _ I h) fun u s1 hh => ?_)
  obtain ⟨x, H1, I1, rx, a, ex, d, q1⟩ := hh
  subst ex
  obtain rfl : u = Value.ref a := rx
  obtain ⟨t1, t2, _⟩ := isD_at I1 d
  refine ⟨t1, t2, ?_⟩
  rw [m.trees]
  refine Calls.callWith_builtin rfl (Calls.evalArgs_plain (Calls.spliced_cons (thn (he pins s1 σ H1 _ I1 q1) fun iv s2 ⟨y, H2, I2, ry, q2⟩ =>
    Calls.spliced_cons (thn (hf pins s2 σ H2 _ I2 q2) fun fv s3 ⟨z, H3, I3, rz, ov, g, q3⟩ => Calls.spliced_nil ?_))))
  exact d_getN2 hu I3 g ry rz fun w' s4 I4 rw' => ⟨_, H3, I4, rw', q3⟩
variable {k : Nat} {A : Around}
theorem qdn2 (hr : Room k A) (ho : QE X o td) (he : QE X e ty) (hf : QE X f tx) (m : M2 X o "get" apos e f cpos := by constructor <;> rfl) (hA : X.A = A := by rfl) : QE X (.Call (.Attribute o "get" apos) [e, f] [] cpos) (tDGetN2 td ty tx) := .mk (pe_dgetN2 (by rw [hA]; exact hu_of hr) ho.un he.un hf.un m)
end
@[irreducible] noncomputable def QP (X : Cx) (pos : Pos) (ks : List (Option Expr)) (vs : List Expr) (trs : List (TE × TE)) : Prop := PPs X pos ks vs trs
section
variable {X : Cx} {pos : Pos} {kx vx : Expr} {ks : List (Option Expr)} {vs : List Expr} {tk tv : TE} {trs : List (TE × TE)}
theorem QP.un (h : QP X pos ks vs trs) : PPs X pos ks vs trs := by unfold QP at h; exact h
theorem pnil : QP X pos [] [] [] := by unfold QP; exact pps_nil
theorem pcons (hk : QE X kx tk) (hv : QE X vx tv) (hr : QP X pos ks vs trs) : QP X pos (some kx :: ks) (vx :: vs) ((tk, tv) :: trs) := by unfold QP; exact pps_cons hk.un hv.un hr.un
theorem qdisp (h : QP X pos ks vs trs) (hall : ks.all (·.isSome) = true := by rfl) (hl : ks.length = vs.length := by rfl) (h0 : ks ≠ [] := by exact List.cons_ne_nil _ _) (h15 : ks.length ≤ 15 := by decide) : QE X (.Dict ks vs pos) (tDisp trs) := .mk (pe_disp h.un hall hl h0 h15)
end
end L3
namespace L3
open PySem PySem.Spec PyProof.Rows L2
section
variable {X : Cx}
variable {a b : Expr} {ta tb : TE} {pos : Pos} {k : Nat} {A : Around}
theorem tdnotin (hr : Room k A) (ha : QE X a ta) (hb : QE X b tb) (hm : behindInMarks .NotIn b = false := by with_unfolding_all rfl) (hA : X.A = A := by rfl) : QT X (.Compare a [.NotIn] [b] pos) (tB (tDNotIn ta tb)) := .mk (pt_cmp (pc_dnotin (by rw [hA]; exact hu_of hr) ha.un hb.un) hm)
end
end L3
namespace L3
open PySem PySem.Spec PyProof.Rows L2
theorem vals_of : ∀ {xs : List V} {us : List Value}, xs.length = us.length → (∀ (j : Nat) x u, xs[j]? = some x → us[j]? = some u → RelV x u) → Vals xs us
  | [], [], _, _ => .nil
  | x :: xs, u :: us, h, f => .cons (f 0 x u rfl rfl) (vals_of (by simpa using h) fun j y v h1 h2 => f (j + 1) y v (by simpa using h1) (by simpa using h2))
  | [], _ :: _, h, _ => by simp at h
  | _ :: _, [], h, _ => by simp at h
theorem keyRel {k : Key} {v : Value} (h : keyIs k v = true) : RelV (kV k) v := by
  rcases keyIs_shape h with ⟨i, t, rfl, rfl⟩ | ⟨x, t, rfl, rfl⟩
  · exact ⟨t, rfl⟩
  · exact ⟨t, rfl⟩
noncomputable def rListD : List V → Hp → VK → Prop := fun xs H Q => ∃ d kvs, xs = [.ref d] ∧ Rd H d (.dK kvs) ∧ New H (.lst (kvs.map fun kv => kV kv.1)) Q
section
variable {X : Cx}
theorem call_listD (hc : X.calm = true) : CallR X (.type "list") rListD := by
  intro pins s σ H xs us Q I rv h
  obtain ⟨d, kvs, rfl, e, q⟩ := h
  obtain ⟨u, rfl, ru⟩ := vals1 rv
  cases ru
  obtain ⟨z, hd, vs, rel, o, es, ep, h1, h2, h3, h4, h5, h6⟩ := dk_rd I.hok e
  have hlen : kvs.length = vs.length := Paired.length rel
  refine PySem.W.kdl_call (PySem.W.kdl_dict (knd := mixKind X.prog X.w) (kvs := vs) (ep := ep) hd) (I.ok.hd hc) ⟨o, es, h1, h2, h3, h4, h5, h6⟩ (by (first | lia | omega)) fun h' tk acc c hk hS hacc => ?_
  refine ⟨.ref s.heap.objs.size, upd H s.heap.objs.size (.lst (kvs.map fun kv => kV kv.1)), I.laid (t' := tk) hk (Nat.le_refl _) ?_, rfl, q.at I.fresh⟩
  have h9 : acc.toList.length = vs.length := by simpa using hacc.1
  refine ⟨by rw [List.length_map]; exact z, acc.toList, c, vals_of (by rw [List.length_map]; (first | lia | omega)) fun j x v e1 e2 => ?_, ?_⟩
  · rw [List.getElem?_map] at e1
    obtain ⟨kv, hkv, rfl⟩ := Option.map_eq_some_iff.mp e1
    rw [Array.getElem?_toList] at e2
    obtain ⟨k, y, h7, h8⟩ := hacc.2 j v e2
    have hke : kv.1 = k := by
      have : ∀ {kvs : List (Key × V)} {vs : List (Key × Value)}, KV kvs vs → ∀ (j : Nat) kv k y, kvs[j]? = some kv → vs[j]? = some (k, y) → kv.1 = k := by
        intro kvs vs r
        unfold KV at r
        induction r with
        | nil => intro j kv k y e; simp at e
        | @cons p q ps qs h t ih =>
          intro j kv k y e1 e2
          cases j with
          | zero => simp at e1 e2; subst e1; rw [h.1, e2]
          | succ j => exact ih j kv k y (by simpa using e1) (by simpa using e2)
      exact this rel j kv k y hkv h7
    subst hke
    exact keyRel h8
  · rw [Array.toArray_toList]; exact hS
theorem fListD (hc : X.calm = true := by rfl) : RCall X (.type "list") rListD := .mk (call_listD hc)
end
end L3
namespace L3
open PySem PySem.Spec PyProof.Rows L2
section
variable {X : Cx}
end
end L3
namespace L3
open PySem PySem.Spec PyProof.Rows L2
section
variable {X : Cx}
end
section
variable {prog : Program} {w : World} {A : Around} {E : Value → Shared → Prop} {s : Shared}
end
end L3
namespace L3
open PySem PySem.Spec PyProof.Rows L2
section
variable {prog : Program} {w : World} {A : Around} {E : Value → Shared → Prop} {s : Shared}
end
end L3
namespace L3
open PySem PySem.Spec PyProof.Rows L2
section
variable {X : Cx}
end
end L3
namespace L3
open PySem PySem.Spec PyProof.Rows L2
section
variable {X : Cx}
end
end L3
namespace L3
open PySem PySem.Spec PyProof.Rows L2
section
variable {prog : Program} {w : World} {A : Around}
theorem call_tree_kw {E : Value → Shared → Prop} {s : Shared} {id : String} {b : Builtin} {args : List Value} {kw : List (Str × Value)} {Q : Value → Shared → Prop} (hk : builtinKind id = none) (hp : plainId id = true) (hb : entryFor table id = some b) (ha : argsOk id ⟨args, kw⟩)
    (hc : wpAny (model prog w) A.in1 (b ⟨args, kw⟩) (fun fin s' => match fin with
      | .done f => (match (Except.ok f : Result) with | .ok (.ret v) => Q v s' | .ok _ => False | .error e => E e s')
      | .again c' => c'.quiet = true ∧ codeAny (model prog w) A c' (fun r s' => match r with | .ok (.ret v) => Q v s' | .ok _ => False | .error e => E e s') s') E s) :
    wpAny (model prog w) A (call (.builtin id) args kw) Q E s := by
  refine wpAny_call (codeAny_call_builtin hp hb ?_)
  simp only [checkBuiltinCall, hk]
  cases hsig : Manifest.signature? id with
  | none => exact wpAny_pure hc
  | some sig =>
    have ha' : Bind.checkArgs id sig ⟨args, kw⟩ = pure () := by simpa only [argsOk, hsig] using ha
    simp only [ha']
    exact wpAny_pure hc
variable {R : Result → Shared → Prop} {it : Addr} {fp wr : List Addr} {n : Nat} {P : Nat → Value → Prop} {St : Nat → Heap → Prop} {kw : List (Str × Value)}
theorem maxk_loop (W : Walks prog w A.in1 it fp wr n P St) (bt : Nat → Nat → Bool) (hcmp : CmpOf prog w A.in1 .Gt P bt) (S : Addr) (hSf : S ∉ fp) :
    ∀ (k j : Nat) (s : Shared) (vb : Value) (c : Nat), n = j + 1 + k → St (j + 1) s.heap → P (argBest bt j) vb →
    s.heap.get? S = some { cls := .type "list", dict := none, data := .seq #[vb, vb] c, slots := #[] } →
    (∀ v h' tk, P (argBest bt (n - 1)) v → (∀ b o, b ∉ wr → b ≠ S → s.heap.get? b = some o → h'.get? b = some o) → R (.ok (.ret v)) { s with heap := h', toks := tk }) →
    codeAny (model prog w) A (.builtin "max.loop" ⟨[.ref it, .none, .ref S], kw⟩) R s
  | 0, j, s, vb, c, hn, hst, hPb, hS, hR => by
    have hSw : S ∉ wr := fun h => hSf (W.sub _ h)
    have hin : j + 1 = n := by (first | lia | omega)
    refine codeAny_builtin F.entry_max_loop ?_
    rw [Around.under_plainId F.plain_max_loop _]
    show wpAny _ A.in1 (seqItems? (.ref S) >>= _) _ _ s
    refine wpAny_bind (wpAny_seqItems hS rfl ?_)
    show wpAny _ A.in1 (tryCatch (pyNext (.ref it)) _ >>= _) _ _ s
    refine wpAny_bind (wpAny_tryCatch (W.done s _ _ (hin ▸ hst) fun h' tk hk' => ?_))
    have hS' := hk' S _ hSw hS
    show wpAny _ A.in1 (updateSeq S (fun _ => #[]) >>= _) _ _ _
    refine wpAny_bind (wpAny_updateSeq hS' rfl (wpAny_bind (wpAny_letGo (wpAny_pure ?_))))
    exact hR vb _ tk (by rw [← hin]; exact hPb) fun b o hbw hbS e => (Heap.get?_update_other _ _ (Ne.symm hbS)).trans (hk' b o hbw e)
  | k + 1, j, s, vb, c, hn, hst, hPb, hS, hR => by
    have hSw : S ∉ wr := fun h => hSf (W.sub _ h)
    have hname : (toString "max" ++ toString ".loop" : String) = "max.loop" := by decide
    refine codeAny_builtin F.entry_max_loop ?_
    rw [Around.under_plainId F.plain_max_loop _]
    show wpAny _ A.in1 (seqItems? (.ref S) >>= _) _ _ s
    refine wpAny_bind (wpAny_seqItems hS rfl ?_)
    show wpAny _ A.in1 (tryCatch (pyNext (.ref it)) _ >>= _) _ _ s
    refine wpAny_bind (wpAny_tryCatch (W.item (j + 1) s _ _ (by (first | lia | omega)) hst fun v h' tk hP hst' hk' => ?_))
    have hS' := hk' S _ hSw hS
    show wpAny _ A.in1 (tryCatch (holding [v, v] (richCompare .Gt v vb >>= _)) _ >>= _) _ _ _
    refine wpAny_bind (wpAny_tryCatch (wpAny_holding (wpAny_bind (hcmp (j + 1) (argBest bt j) v vb _ _ _ hP hPb ?_))))
    refine wpAny_bind (wpAny_holding (wpAny_truthy_bool (wpAny_bind (wpAny_letGo (wpAny_pure ?_)))))
    cases hb : bt (j + 1) (argBest bt j) with
    | true =>
      simp only [if_true]
      refine wpAny_bind (wpAny_updateSeq hS' rfl (wpAny_bind (wpAny_letGo ?_)))
      rw [hname]
      refine wpAny_pure ⟨plainId_quiet F.plain_max_loop _, maxk_loop W bt hcmp S hSf k (j + 1) _ v _ (by (first | lia | omega)) (W.frame _ _ _ hst' fun b hbf o e => ?_) (by simp only [argBest, hb, if_true]; exact hP) (Heap.get?_update_self _ hS' rfl) fun v' h'' tk'' hP' hk'' => ?_⟩
      · exact (Heap.get?_update_other _ _ (fun h : S = b => hSf (by rw [h]; exact hbf))).trans e
      · exact hR v' h'' tk'' hP' fun b o hbw hbS e => hk'' b o hbw hbS ((Heap.get?_update_other _ _ (Ne.symm hbS)).trans (hk' b o hbw e))
    | false =>
      simp only [Bool.false_eq_true, if_false]
      refine wpAny_bind (wpAny_letGo ?_)
      rw [hname]
      refine wpAny_pure ⟨plainId_quiet F.plain_max_loop _, maxk_loop W bt hcmp S hSf k (j + 1) _ vb c (by (first | lia | omega)) hst' (by simp only [argBest, hb, Bool.false_eq_true, if_false]; exact hPb) hS' fun v' h'' tk'' hP' hk'' => ?_⟩
      exact hR v' h'' tk'' hP' fun b o hbw hbS e => hk'' b o hbw hbS (hk' b o hbw e)
theorem maxk_first {d : Value} {nm : Str} (W : Walks prog w A.in1 it fp wr n P St) (bt : Nat → Nat → Bool) (hcmp : CmpOf prog w A.in1 .Gt P bt) (S : Addr) (hSf : S ∉ fp) {s : Shared} {c : Nat} (hst : St 0 s.heap)
    (hS : s.heap.get? S = some { cls := .type "list", dict := none, data := .seq #[] c, slots := #[] })
    (hR : ∀ v h' tk, (n = 0 ∧ v = d ∨ 0 < n ∧ P (argBest bt (n - 1)) v) → (∀ b o, b ∉ wr → b ≠ S → s.heap.get? b = some o → h'.get? b = some o) → R (.ok (.ret v)) { s with heap := h', toks := tk }) :
    codeAny (model prog w) A (.builtin "max.loop" ⟨[.ref it, .none, .ref S], [(nm, d)]⟩) R s := by
  have hSw : S ∉ wr := fun h => hSf (W.sub _ h)
  have hname : (toString "max" ++ toString ".loop" : String) = "max.loop" := by decide
  refine codeAny_builtin F.entry_max_loop ?_
  rw [Around.under_plainId F.plain_max_loop _]
  show wpAny _ A.in1 (seqItems? (.ref S) >>= _) _ _ s
  refine wpAny_bind (wpAny_seqItems hS rfl ?_)
  show wpAny _ A.in1 (tryCatch (pyNext (.ref it)) _ >>= _) _ _ s
  rcases Nat.eq_zero_or_pos n with h0 | hn
  · subst h0
    refine wpAny_bind (wpAny_tryCatch (W.done s _ _ hst fun h' tk hk' => ?_))
    refine wpAny_bind (wpAny_rule (wpAny_pure ?_))
    exact hR d h' tk (.inl ⟨rfl, rfl⟩) fun b o hbw hbS e => hk' b o hbw e
  · refine wpAny_bind (wpAny_tryCatch (W.item 0 s _ _ hn hst fun v h' tk hP hst' hk' => ?_))
    have hS' := hk' S _ hSw hS
    show wpAny _ A.in1 (updateSeq S (fun _ => #[v, v]) >>= _) _ _ _
    refine wpAny_bind (wpAny_updateSeq hS' rfl ?_)
    rw [hname]
    refine wpAny_pure ⟨plainId_quiet F.plain_max_loop _, maxk_loop W bt hcmp S hSf (n - 1) 0 _ v _ (by (first | lia | omega)) (W.frame _ _ _ hst' fun b hbf o e => ?_) hP (Heap.get?_update_self _ hS' rfl) fun v' h'' tk'' hP' hk'' => ?_⟩
    · exact (Heap.get?_update_other _ _ (fun h : S = b => hSf (by rw [h]; exact hbf))).trans e
    · exact hR v' h'' tk'' (.inr ⟨hn, hP'⟩) fun b o hbw hbS e => hk'' b o hbw hbS ((Heap.get?_update_other _ _ (Ne.symm hbS)).trans (hk' b o hbw e))
theorem args_maxd (a d : Value) : argsOk "max" ⟨[a], [("default", d)]⟩ := by unfold argsOk; kernel_rfl
theorem maxd_intList {E : Value → Shared → Prop} {s : Shared} {l : Addr} {xs : Array (Int × Tok)} {d : Value} {Q : Value → Shared → Prop} (hh : A.handled = none) (hl : s.heap.IsList l (intItems xs))
    (h : ∀ v h' tk, (xs.size = 0 ∧ v = d ∨ 0 < xs.size ∧ (intItems xs)[argBest (fun i j => decide (numAt xs i > numAt xs j)) (xs.size - 1)]? = some v) → (∀ b o, s.heap.get? b = some o → h'.get? b = some o) → Q v { s with heap := h', toks := tk }) :
    wpAny (model prog w) A (call (.builtin "max") [.ref l] [("default", d)]) Q E s := by
  have hname : (toString "max" ++ toString ".loop" : String) = "max.loop" := by decide
  refine call_tree_kw F.kind_max F.plain_max F.entry_max (args_maxd _ _) ?_
  show wpAny _ A.in1 (Builtin.Builtins.bindParams "max" ["key", "default"] 0 ⟨[], [("default", d)]⟩ >>= _) _ _ s
  refine wpAny_bind (wpAny_of_eq (show Builtin.Builtins.bindParams "max" ["key", "default"] 0 ⟨[], [("default", d)]⟩ = pure [none, some d] from rfl) ?_)
  refine wpAny_bind (wpAny_pure ?_)
  refine wpAny_bind (iter_intList hl fun s₂ e st hfp hlI => ?_)
  subst e
  refine wpAny_bind (wpAny_newObj_type ?_)
  rw [hname]
  have W := Walks.list (prog := prog) (w := w) (A := A.in1) hh s.heap.objs.size l hlI (intItems xs)
  refine wpAny_pure ⟨plainId_quiet F.plain_max_loop _, maxk_first (d := d) W _ (CmpOf.ints_gt (numAt xs) (fun _ _ => intItems_at)) _ (fun hm => Nat.lt_irrefl _ (hfp _ hm)) (W.frame _ _ _ st fun b _ o e => Heap.get?_push_of_some _ e) (Heap.get?_push_size _ rfl) fun v h' tk hv hk => ?_⟩
  refine h v h' tk (by simpa [intItems] using hv) (old_kept fun b o hbw e => hk b o hbw (Nat.ne_of_lt (Heap.lt_size e)) (Heap.get?_push_of_some _ e))
end
section
variable {X : Cx}
end
end L3
namespace HT
open PySem PyProof.Rows
noncomputable abbrev IsZip2 (h : Heap) (z TI TO T : Addr) (b : Bool) : Prop :=
  h.get? z = some { cls := .type "zip", dict := none, data := .fields #[rawInt T, .bool b, .bool false, .ref TI, .ref TO], slots := #[] }
section
variable {prog : Program} {w : World} {A : Around} {E : Value → Shared → Prop} {s : Shared}
end
end HT
namespace HT
open PySem PyProof.Rows
section
variable {prog : Program} {w : World} {A : Around} {E : Value → Shared → Prop} {s : Shared}
noncomputable def ZS (z TI TO i1 i2 l1 l2 : Addr) (i : Nat) (h : Heap) : Prop :=
  IsPair h TI (.ref i1) (.ref i2) ∧ h.IsListIter i1 l1 i ∧ h.IsListIter i2 l2 i ∧ (∃ a b, IsPair h TO a b) ∧ ((IsZip h z TI TO .none) ∨ ∃ T b o, IsZip2 h z TI TO T b ∧ h.get? T = some o ∧ T ≠ z ∧ T ≠ TO ∧ T ≠ i1 ∧ T ≠ i2)
theorem ZS.frame {z TI TO i1 i2 l1 l2 S : Addr} {i : Nat} {h h' : Heap} {oS : Obj} (hs : ZS z TI TO i1 i2 l1 l2 i h) (hS : S ≠ z ∧ S ≠ TI ∧ S ≠ TO ∧ S ≠ i1 ∧ S ≠ i2) (k : ∀ c o, c ≠ S → h.get? c = some o → h'.get? c = some o) (eS : h'.get? S = some oS) : ZS z TI TO i1 i2 l1 l2 i h' := by
  obtain ⟨hTI, h1, h2, ⟨a, b, hTO⟩, hz⟩ := hs
  obtain ⟨s1, s2, s3, s4, s5⟩ := hS
  refine ⟨k _ _ s2.symm hTI, h1.at fun o e => k _ o s4.symm e, h2.at fun o e => k _ o s5.symm e, ⟨a, b, k _ _ s3.symm hTO⟩, ?_⟩
  rcases hz with hz | ⟨T, c, o, hz, hT, t⟩
  · exact .inl (k _ _ s1.symm hz)
  · by_cases hTS : T = S
    · subst hTS; exact .inr ⟨T, c, oS, k _ _ s1.symm hz, eS, t⟩
    · exact .inr ⟨T, c, o, k _ _ s1.symm hz, k _ _ hTS hT, t⟩
variable {R : Result → Shared → Prop} {K : Type} [DecidableEq K] {knd : KeyKind prog w K}
end
end HT
namespace L3
open PySem PySem.Spec PyProof.Rows L2
section
variable {X : Cx}
end
end L3
namespace L3
open PySem PySem.Spec PyProof.Rows L2
section
variable {X : Cx}
end
end L3
namespace L3
open PySem PySem.Spec PyProof.Rows L2
section
variable {X : Cx} {tg : Expr}
variable {g : TG} {tt : TT} {te : TE} {acc : Addr} {σ0 : L2.St} {H0 : Hp} {Q : Hp → Prop}
end
end L3
namespace L3
open PySem PySem.Spec PyProof.Rows L2
section
variable {X : Cx}
end
end L3
namespace L3
open PySem PySem.Spec PyProof.Rows L2
section
variable {X : Cx}
end
end L3
namespace HS
open PySem PySem.W PyProof.Rows
noncomputable def Good (r : Nat → Nat) (n : Nat) {α : Type} : KasT α → (α → Prop) → Prop
  | .ret a, Q => Q a
  | .ask i j k, Q => i < n ∧ j < n ∧ Good r n (k (decide (r i < r j))) Q
section
variable {r : Nat → Nat} {n : Nat}
theorem Good.mono {α : Type} {Q Q' : α → Prop} (hq : ∀ a, Q a → Q' a) : ∀ {t : KasT α}, Good r n t Q → Good r n t Q'
  | .ret a, h => hq a h
  | .ask _ _ k, h => ⟨h.1, h.2.1, Good.mono hq (t := k _) h.2.2⟩
noncomputable def R (r : Nat → Nat) (p : Array Nat) (i : Nat) : Nat := r (p.getD i 0)
noncomputable def Ar (n : Nat) (p : Array Nat) : Prop := p.toList.Perm (List.range n)
theorem Ar.size {p : Array Nat} (h : Ar n p) : p.size = n := by
  have := h.length_eq
  rw [List.length_range, Array.length_toList] at this
  exact this
theorem Ar.lt {p : Array Nat} (h : Ar n p) (h0 : 0 < n) (i : Nat) : p.getD i 0 < n := by
  rw [Array.getD_eq_getD_getElem?]
  by_cases hi : i < p.size
  · rw [getElem?_pos p i hi]
    have : p[i] ∈ p.toList := by simp
    exact List.mem_range.mp (h.mem_iff.mp this)
  · rw [getElem?_neg p i hi]; exact h0
end
end HS
namespace HS
open PySem PySem.W PyProof.Rows
noncomputable def rk (L : List (List Int)) (i : Nat) : Nat := L.countP fun x => HT.lexLt x (L.getD i [])
section
variable {prog : Program} {w : World} {A : Around} {E : Value → Shared → Prop} {s : Shared}
inductive F2 {α β : Type} (R : α → β → Prop) : List α → List β → Prop where
  | nil : F2 R [] []
  | cons {a : α} {b : β} {as : List α} {bs : List β} : R a b → F2 R as bs → F2 R (a :: as) (b :: bs)
end
end HS
namespace L3
open PySem PySem.Spec PyProof.Rows L2
section
variable {X : Cx}
end
end L3
namespace HS
open PySem PySem.W PyProof.Rows
section
variable {prog : Program} {w : World} {A : Around} {E : Value → Shared → Prop} {s : Shared}
end
end HS
namespace L3
open PySem PySem.Spec PyProof.Rows L2
section
variable {X : Cx}
end
end L3
namespace L3
open PySem PySem.Spec PyProof.Rows PySem.W L2
section
variable {X : Cx}
end
end L3
namespace L3
open PySem PySem.Spec PyProof.Rows L2
section
variable {X : Cx}
end
end L3
namespace L3
open PySem PySem.Spec PyProof.Rows L2
noncomputable def fnObj (fd : FuncData) : Obj := { cls := .type "function", data := .func fd }
noncomputable def fnE (f : Addr) (fd : FuncData) : HO := .ext fun h => h.get? f = some (fnObj fd)
noncomputable def codeE (c : Addr) (q : Str) : HO := .ext fun h => h.CodeRec (.ref c) q
noncomputable def cellE (c : Addr) (v : V) : HO := .ext fun h => ∃ u, RelV v u ∧ h.IsCell c (some u)
theorem fnE_ok {P : Program} {w : World} {H : Hp} {h : Heap} {f : Addr} {fd : FuncData} (e : h.get? f = some (fnObj fd)) : ObjOk P w H h f (fnE f fd) := ⟨e, ⟨_, e⟩, fun h1 h2 q k => k _ q⟩
theorem codeE_ok {P : Program} {w : World} {H : Hp} {h : Heap} {c : Addr} {q : Str} (e : h.CodeRec (.ref c) q) : ObjOk P w H h c (codeE c q) := by
  obtain ⟨c2, oc, vs, t, e2, hoc, r⟩ := id e
  cases e2
  refine ⟨e, ⟨oc, hoc⟩, fun h1 h2 x k => ?_⟩
  obtain ⟨c2, oc, vs, t, e2, hoc, r⟩ := x
  cases e2
  exact ⟨c, oc, vs, t, rfl, k _ hoc, r⟩
theorem cellE_ok {P : Program} {w : World} {H : Hp} {h : Heap} {c : Addr} {v : V} {u : Value} (r : RelV v u) (e : h.IsCell c (some u)) : ObjOk P w H h c (cellE c v) := by
  obtain ⟨o, ho, hd⟩ := id e
  refine ⟨⟨u, r, e⟩, ⟨o, ho⟩, fun h1 h2 x k => ?_⟩
  obtain ⟨u, r, o, ho, hd⟩ := x
  exact ⟨u, r, o, k _ ho, hd⟩
noncomputable def hideC (cs : List Addr) (H : Hp) : Hp := fun b => if b ∈ cs then none else H b
noncomputable def backC (cs : List Addr) (H H' : Hp) : Hp := fun b => if b ∈ cs then H b else H' b
theorem hideC_in {cs : List Addr} {H : Hp} {b : Addr} (h : b ∈ cs) : hideC cs H b = none := if_pos h
theorem hideC_ne {cs : List Addr} {H : Hp} {b : Addr} (h : b ∉ cs) : hideC cs H b = H b := if_neg h
theorem backC_in {cs : List Addr} {H H' : Hp} {b : Addr} (h : b ∈ cs) : backC cs H H' b = H b := if_pos h
theorem backC_ne {cs : List Addr} {H H' : Hp} {b : Addr} (h : b ∉ cs) : backC cs H H' b = H' b := if_neg h
theorem lookup_mem {κ β : Type} [BEq κ] [LawfulBEq κ] : ∀ {l : List (κ × β)} {x : κ} {u : β}, (l.map (·.1)).Nodup → (x, u) ∈ l → l.lookup x = some u
  | (y, w) :: l, x, u, hn, h => by
    rw [List.map_cons, List.nodup_cons] at hn
    rcases List.mem_cons.mp h with e | e
    · cases e; simp [List.lookup]
    · have hne : x ≠ y := fun z => hn.1 (List.mem_map.mpr ⟨_, e, z⟩)
      rw [List.lookup_cons, beq_eq_false_iff_ne.mpr hne]
      exact lookup_mem hn.2 e
structure CloScope (N ps : List Str) (sc : Scope) : Prop where
  kind : sc.kind = .function
  co : sc.isCoroutine = false
  gen : sc.isGenerator = false
  nd : N.Nodup
  pre : N.take ps.length = ps
  par : ∀ x ∈ ps, sc.names.lookup x = some .local
  nocell : ∀ y ∈ sc.names, y.2 ≠ .cell
noncomputable def startC (N : List Str) (n : Nat) (vs : List V) (cv : Str → Option V) : L2.St := vs.map some ++ (N.drop n).map cv
noncomputable def cxClo (P : Program) (w : World) (K : PySem.W.Frag) (mg : Str → Option Value) (base : Heap) (N : List Str) (qual : Str) (scope : Scope) (f : Addr) (cd : Value) (cl : List (Str × Addr)) (A : Around) (outer : List Env) (s : Shared) (H : Hp) : Cx where
  prog := P
  w := w
  K := K
  mg := mg
  base := base
  A := A.deeper (PySem.W.envX qual scope s.heap.objs.size f cd cl)
  N := N
  s₀ := s
  H₀ := hideC (cl.map (·.2)) H
  env := PySem.W.envX qual scope s.heap.objs.size f cd cl
  outer := outer
  stack := PySem.W.envX qual scope s.heap.objs.size f cd cl :: outer
  ex := []
  calm := true
  fn := fun _ => false
  pn := []
  xe := fun _ _ => False
theorem HOk.hide {P : Program} {w : World} {H : Hp} {h h' : Heap} {cs : List Addr} (x : HOk P w H h) (hc : ∀ c ∈ cs, ∃ φ, H c = some (.ext φ)) (k : ∀ b u, h.get? b = some u → h'.get? b = some u) : HOk P w (hideC cs H) h' := fun a o e => by
  by_cases ha : a ∈ cs
  · rw [hideC_in ha] at e; cases e
  · rw [hideC_ne ha] at e
    have nin : ∀ {b o}, H b = some o → (∀ φ, o ≠ .ext φ) → b ∉ cs := fun {b o} hb ho z => by
      obtain ⟨φ, q⟩ := hc b z
      rw [hb] at q
      exact ho φ (Option.some.inj q)
    exact (x a o e).stay (fun b u _ q => k b u q) (fun b q => by rw [hideC_ne (nin q fun _ z => nomatch z)]; exact q) fun b xs q => by rw [hideC_ne (nin q fun _ z => nomatch z)]; exact q
section
variable {P : Program} {w : World} {K : PySem.W.Frag} {mg : Str → Option Value} {base : Heap}
theorem fn_clo {k : Nat} {f c' : Addr} {name qual : Str} {params : Arguments} {body : List Stmt} {scope : Scope} {cl : List (Str × Addr)} {doc pm ctv : Value} {N ps : List Str} {sp : Sp} {cv : Str → Option V} (S : CloScope N ps scope)
    (inj : ∀ x y c, cl.lookup x = some c → cl.lookup y = some c → x = y) (clm : ∀ x c, (x, c) ∈ cl → cl.lookup x = some c) (has : ∀ x, scope.names.lookup x = some .free → ∃ c, cl.lookup x = some c)
    (cvok : ∀ x ∈ N.drop ps.length, ∀ v, cv x = some v → scope.names.lookup x = some .free)
    (len : ∀ vs H Q E, sp vs H Q E → vs.length = ps.length)
    (hH : ∀ vs H Q E, sp vs H Q E → H f = some (fnE f (PySem.W.fnX name qual params body scope cl .none .none doc pm none (.ref c') ctv)) ∧ H c' = some (codeE c' qual) ∧ ∀ x c, cl.lookup x = some c → ∃ v, cv x = some v ∧ H c = some (cellE c v))
    (hbody : ∀ (A : Around) (outer : List Env) (s : Shared) (H : Hp) (vs : List V) (Q : VK) (E : XK), Room k (A.deeper (PySem.W.envX qual scope s.heap.objs.size f (.ref c') cl)) → sp vs H Q E →
      ∃ t, PSs (cxClo P w K mg base N qual scope f (.ref c') cl A outer s H) body t ∧ t { nx := fun _ H' => (∀ c ∈ cl.map (·.2), H' c = none) → Q .non (backC (cl.map (·.2)) H H'), rt := fun v H' => (∀ c ∈ cl.map (·.2), H' c = none) → Q v (backC (cl.map (·.2)) H H') } (startC N ps.length vs cv) (hideC (cl.map (·.2)) H)) :
    FnOk P w K mg base CX0 (k + 1) f (PySem.W.fnX name qual params body scope cl .none .none doc pm none (.ref c') ctv) ps sp := by
  refine ⟨len, fun A outer s H args us vs Q E hr e0 hb r hsp => ?_⟩
  obtain ⟨hf, hc', hcs⟩ := hH vs H Q E hsp
  have hl := len _ _ _ _ hsp
  have lim : s.heap.NoLimit := e0.mod.nolimit.keeps fun b o e => (e0.bs b o e).1
  have hfo : s.heap.get? f = some (fnObj (PySem.W.fnX name qual params body scope cl .none .none doc pm none (.ref c') ctv)) := (e0.hok f _ hf).1
  have hcd : s.heap.CodeRec (.ref c') qual := (e0.hok c' _ hc').1
  have cin : ∀ c ∈ cl.map (·.2), ∃ x v, cl.lookup x = some c ∧ cv x = some v ∧ H c = some (cellE c v) := fun c hc => by
    obtain ⟨⟨x, c2⟩, hm, rfl⟩ := List.mem_map.mp hc
    obtain ⟨v, h1, h2⟩ := hcs x c2 (clm x c2 hm)
    exact ⟨x, v, clm x c2 hm, h1, h2⟩
  have cel : ∀ x c, cl.lookup x = some c → ∃ v u, cv x = some v ∧ H c = some (cellE c v) ∧ RelV v u ∧ s.heap.IsCell c (some u) := fun x c e => by
    obtain ⟨v, h1, h2⟩ := hcs x c e
    obtain ⟨⟨u, r, q⟩, _⟩ := e0.hok c _ h2
    exact ⟨v, u, h1, h2, r, q⟩
  have cmem : ∀ x c, cl.lookup x = some c → c ∈ cl.map (·.2) := fun x c e => List.mem_map.mpr ⟨(x, c), PySem.mem_of_lookup e, rfl⟩
  have ndP : ps.Nodup := by rw [← S.pre]; exact S.nd.sublist (List.take_sublist _ _)
  have hul : us.length = ps.length := by rw [← r.length]; exact hl
  refine codeAny_call_def (fd := PySem.W.fnX name qual params body scope cl .none .none doc pm none (.ref c') ctv) (body := body) (binds := ps.zip us) hr.depth hfo rfl lim hcd rfl hb S.nocell (fun y hy => S.par y.1 (List.of_mem_zip hy).1) (fun h1 hns hk => ?_) S.co S.gen S.kind
  obtain ⟨t, ht, hq⟩ := hbody A outer s H vs Q E (hr.deeper _) hsp
  have noA : ∀ b : Addr, b ∉ (cxClo P w K mg base N qual scope f (.ref c') cl A outer s H).ex := fun b z => absurd (show b ∈ ([] : List Addr) from z) (by simp)
  have fresh : H s.heap.objs.size = none := e0.hok.fresh (Nat.le_refl _)
  have hpl : ps.length ≤ N.length := by have := congrArg List.length S.pre; rw [List.length_take] at this; (first | lia | omega)
  have I : L2.Inv (cxClo P w K mg base N qual scope f (.ref c') cl A outer s H) [] (startC N ps.length vs cv) (hideC (cl.map (·.2)) H) { s with heap := h1, toks := s.toks + (ps.zip us).length } := by
    refine ⟨⟨e0.mod, S.kind, rfl, rfl, Nat.le_refl _, inj, fun y hy => ?_, fun y c h _ => ?_, fun _ => hr.hd, Around.frames_deeper e0.frames, .inr ⟨rfl, rfl⟩, fun b z => absurd z (noA b), fun b o e => ⟨(e0.bs b o e).1, ?_⟩, e0.bsz, fun b _ _ => noA b, fun b z => absurd z (noA b), e0.funs, fun b hb => ?_⟩,
      rfl, e0.bare, Un.kept hk, ⟨_, hns, fun i y v g1 g2 g3 => ?_⟩, fun y c e => ?_, ?_, fun y c e => hideC_in (cmem y c e), fun p hp => absurd (show p ∈ ([] : List (Addr × Obj)) from hp) (by simp), HOk.hide e0.hok (fun c hc => ?_) hk, ?_⟩
    · rcases hy with hy | hy
      · exact absurd rfl (S.nocell _ (PySem.mem_of_lookup hy))
      · exact has y hy
    · cases h
    · show hideC _ H b = none
      unfold hideC
      split
      · rfl
      · exact (e0.bs b o e).2
    · show hideC _ H b = none
      unfold hideC
      split
      · rfl
      · exact e0.frf b hb
    · have g1 : N[i]? = some y := g1
      by_cases hi : i < ps.length
      · have ha : vs[i]? = some v := by
          unfold startC at g2
          rw [List.getElem?_append_left (by rw [List.length_map]; (first | lia | omega)), List.getElem?_map] at g2
          cases e : vs[i]? with
          | none => rw [e] at g2; cases g2
          | some a => rw [e] at g2; cases g2; rfl
        obtain ⟨u, hu, rv⟩ := r.get ha
        have hp : ps[i]? = some y := by
          have : (N.take ps.length)[i]? = some y := by rw [List.getElem?_take_of_lt hi]; exact g1
          rwa [S.pre] at this
        refine ⟨u, rv, .inl ⟨S.par y (List.mem_of_getElem? hp), ?_⟩⟩
        refine lookup_mem ?_ ?_
        · rw [List.map_reverse]
          refine (List.reverse_perm _).nodup_iff.mpr ?_
          rw [List.map_fst_zip (by (first | lia | omega))]; exact ndP
        · rw [List.mem_reverse]
          refine List.mem_of_getElem? (i := i) ?_
          rw [List.getElem?_zip_eq_some]; exact ⟨hp, hu⟩
      · have ha : cv y = some v ∧ y ∈ N.drop ps.length := by
          unfold startC at g2
          rw [List.getElem?_append_right (by rw [List.length_map]; (first | lia | omega)), List.length_map, List.getElem?_map, List.getElem?_drop, show ps.length + (i - vs.length) = i by (first | lia | omega), g1] at g2
          refine ⟨by simpa using g2, ?_⟩
          refine List.mem_of_getElem? (i := i - ps.length) ?_
          rw [List.getElem?_drop, show ps.length + (i - ps.length) = i by (first | lia | omega)]; exact g1
        have hfree := cvok y ha.2 v ha.1
        obtain ⟨c, hc⟩ := has y hfree
        obtain ⟨v2, u, h1', h2', h3', h4'⟩ := cel y c hc
        rw [ha.1] at h1'
        cases h1'
        exact ⟨u, h3', .inr ⟨.inr hfree, c, hc, h4'.keeps hk⟩⟩
    · obtain ⟨v, u, _, _, _, q⟩ := cel y c e
      exact ⟨_, q.keeps hk⟩
    · show hideC _ H s.heap.objs.size = none
      unfold hideC
      split
      · rfl
      · exact fresh
    · obtain ⟨_, v, _, _, h2⟩ := cin c hc
      exact ⟨_, h2⟩
    · unfold startC
      show _ = N.length
      rw [List.length_append, List.length_map, List.length_map, List.length_drop]
      (first | lia | omega)
  have fin : ∀ {σ' : L2.St} {H' : Hp} {s' : Shared} {v : V} {u : Value}, L2.Inv (cxClo P w K mg base N qual scope f (.ref c') cl A outer s H) [] σ' H' s' → RelV v u → ((∀ c ∈ cl.map (·.2), H' c = none) → Q v (backC (cl.map (·.2)) H H')) → CE outer P w H s Q u s' := fun {σ' H' s' v u} J rv q0 => by
    have q := q0 fun c hc => by
      obtain ⟨x, v2, hx, _, _⟩ := cin c hc
      exact J.freeC x c hx
    have nin : ∀ {b o}, H b = some o → (∀ φ, o ≠ .ext φ) → b ∉ cl.map (·.2) := fun {b o} hb ho z => by
      obtain ⟨_, v, _, _, e⟩ := cin b z
      rw [hb] at e
      exact ho _ (Option.some.inj e)
    have nin0 : ∀ {b}, H b = none → b ∉ cl.map (·.2) := fun {b} hb z => by
      obtain ⟨_, v, _, _, e⟩ := cin b z
      rw [hb] at e; cases e
    refine ⟨v, backC (cl.map (·.2)) H H', J.os, J.bare, ⟨fun b o e n hb hx => J.base.keep b o e (by show hideC _ H b = none; rw [hideC_ne (nin0 n)]; exact n) hb hx, fun b o e n hb hx => J.base.slot b o e (by show hideC _ H b = none; rw [hideC_ne (nin0 n)]; exact n) hb hx,
      fun b o e n hx => by rw [backC_ne (nin0 n)]; exact J.base.free b o e (by show hideC _ H b = none; rw [hideC_ne (nin0 n)]; exact n) hx, fun b o e hx => J.base.there b o e hx,
      fun b xs e => ?_, fun b o u e => ?_, fun b p e => ?_⟩, fun a o e => ?_, rv, q⟩
    · have h := nin e fun _ z => nomatch z
      rw [backC_ne h]
      exact J.base.tups b xs (by show hideC _ H b = _; rw [hideC_ne h]; exact e)
    · have h := nin e fun _ z => nomatch z
      rw [backC_ne h]
      exact J.base.frzs b o u (by show hideC _ H b = _; rw [hideC_ne h]; exact e)
    · have h := nin e fun _ z => nomatch z
      obtain ⟨more, e2⟩ := J.base.tbls b p (by show hideC _ H b = _; rw [hideC_ne h]; exact e)
      exact ⟨more, by rw [backC_ne h]; exact e2⟩
    · by_cases ha : a ∈ cl.map (·.2)
      · rw [backC_in ha] at e
        obtain ⟨x, v2, hx, h1', h2'⟩ := cin a ha
        rw [h2'] at e
        cases e
        obtain ⟨v3, u3, g1, g2, g3, oc, hoc, hdc⟩ := cel x a hx
        rw [h1'] at g1
        cases g1
        obtain ⟨sl, hs'⟩ := J.base.any hoc (hideC_in ha) (by simp [cxClo])
        exact cellE_ok g3 ⟨_, hs', hdc⟩
      · rw [backC_ne ha] at e
        have nin' : ∀ {b o}, H' b = some o → b ∉ cl.map (·.2) := fun {b o} hb z => by
          obtain ⟨x, v2, hx, _, _⟩ := cin b z
          have := J.freeC x b hx
          rw [hb] at this; cases this
        exact (J.hok a o e).stay (fun b u _ q => q) (fun b q => by rw [backC_ne (nin' q)]; exact q) fun b xs q => by rw [backC_ne (nin' q)]; exact q
  refine wpAny_mono (ht [] _ (startC N ps.length vs cv) _ _ I hq) (fun fl s' hs => ?_) fun e s' hs => hs.elim
  cases fl with
  | ret u =>
    obtain ⟨v, σ', H', J, rv, q⟩ := hs
    exact fin J rv q
  | next =>
    obtain ⟨σ', H', J, q⟩ := hs
    exact fin (v := V.non) (u := Value.none) J rfl q
  | brk =>
    obtain ⟨_, _, _, q⟩ := hs
    exact False.elim q
  | cont =>
    obtain ⟨_, _, _, q⟩ := hs
    exact False.elim q
end
section
variable {X : Cx}
noncomputable def tCallV (X : Cx) (i : Nat) (t : TA) : TE := fun σ H Q => ∃ (f : Addr) (fd : FuncData), σ[i]? = some (some (.ref f)) ∧ H f = some (fnE f fd) ∧ t σ H fun vs H1 => H1 f = some (fnE f fd) ∧ ∃ (k : Nat) (ps : List Str) (sp : Sp), FnOk X.prog X.w X.K X.mg X.base CX0 k f fd ps sp ∧ Room k X.A ∧ Binds X.K fd ps [] ∧ sp vs H1 Q E0
theorem pe_callV {i : Nat} {x : Str} {p pos : Pos} {e : Expr} {es : List Expr} {t : TA} (hN : X.N[i]? = some x) (hv : Vis X.env.scope x) (ha : PA X (e :: es) t) (hd : (x == ("__debug__" : Str)) = false := by decide) (hcd : (x == ("__classdict__" : Str)) = false := by decide)
    (he : starEach (e :: es) X.env = (false, eval e X.env) :: starEach es X.env := by rfl) (hpl : (backTo pos (starEach es X.env)).any (·.1) = false := by rfl) : PE X (.Call (.Name x p) (e :: es) [] pos) (tCallV X i t) := by
  intro pins s σ H Q I h
  obtain ⟨f, fd, hf, hfo, h⟩ := h
  have fat : ∀ {s1 : Shared} {H1 : Hp}, L2.Inv X pins σ H1 s1 → H1 f = some (fnE f fd) → PySem.W.FnAt f s1.heap := fun I1 e1 => ⟨_, _, _, _, (I1.hok f _ e1).1⟩
  refine wpAny_Call_Name_kw (thn (pe_var hN hv hd hcd pins s σ H (fun v H1 => v = .ref f ∧ H1 = H) I ⟨_, hf, rfl, rfl⟩) fun u s1 hh => ?_)
  obtain ⟨v, H1, I1, r1, e1, e2⟩ := hh
  subst e1 e2
  cases r1
  refine PySem.W.callWith_F (fat I1 hfo) (thn (ha pos pins s1 σ _ _ I1 h) fun us s2 hh => ?_) he hpl
  obtain ⟨vs, H2, I2, r2, hf2, k, ps, sp, F, hr, hb, q⟩ := hh
  refine ⟨fat I2 hf2, ?_⟩
  exact run_fn (us := us) (dvs := []) (ds := []) F hr hb .nil pass0 I2 r2 (by rw [List.append_nil]; exact q)
end
end L3
namespace L3
open PySem PySem.Spec PyProof.Rows L2
noncomputable def TB (P : Addr) (pos : Pos) (q : Str) (H : Hp) : Prop := ∃ ps : Array Value, H P = some (.tbl ps) ∧ TriplesOk ps.toList ∧ (codeAmong pos ps.toList = none ∨ ∃ c', codeAmong pos ps.toList = some (.ref c') ∧ H c' = some (codeE c' q))
section
variable {X : Cx}
theorem def_step {pins : List (Addr × Obj)} {σ : L2.St} {H : Hp} {s : Shared} {name : Str} {params : Arguments} {body : List Stmt} {scope : Scope} {pos : Pos} {P c : Addr} {clos : List (Str × Addr)} {i : Nat} {q : Str} {Q : Flow → Shared → Prop}
    (I : L2.Inv X pins σ H s) (hT : TB P pos q H) (C : PySem.W.CodeHd X.base c P) (BA : X.base.BuiltinsAt X.mg P) (hcode : X.env.code = .ref c) (hcl : closureFor scope X.env = pure clos) (hq : qualnameIn X.env name name = q)
    (hN : X.N.Nodup) (hi : X.N[i]? = some name) (hx : Loc X.env.scope name) (hf : X.fn name = true ∨ X.env.scope.names.lookup name = some .local) (hd0 : params.defaults = []) (hk0 : params.kw_defaults = []) (ha : annTrees params none X.env = [])
    (h : ∀ (f c' : Addr) (doc ctv : Value) (H1 : Hp) (s1 : Shared), H f = none → H1 f = some (fnE f (PySem.W.fnX name q params body scope clos .none .none doc ((X.mg "__name__").getD .none) none (.ref c') ctv)) → H1 c' = some (codeE c' q) → TB P pos q H1 →
      (∀ b o, b ≠ P → H b = some o → H1 b = some o) → L2.Inv X pins (σ.set i (some (.ref f))) H1 s1 → Q .next s1) :
    wpAny (model X.prog X.w) X.A (exec (.FunctionDef name params body [] none [] scope none name pos) X.env) Q X.xe s := by
  obtain ⟨ps, eP, ht, hc⟩ := hT
  have hP : s.heap.get? P = some (PySem.W.tabObj ps) := I.hok P _ eP
  have hgs : s.heap.Ns mainGlobals X.mg := I.ok.mod.glob.keeps I.bk
  have hgP : mainGlobals ≠ P := fun z => by
    obtain ⟨o, es, ep, e, hd, _⟩ := hgs
    rw [z, hP] at e; cases e; cases hd
  have BA' : s.heap.BuiltinsAt X.mg P := by
    obtain ⟨bm, o, b1, b2, b3, b4, b5, b6⟩ := BA
    exact ⟨bm, o, b1, b2, b3, b4, I.bk _ _ b5, b6⟩
  refine PySem.W.nestDef_K hd0 hk0 ha ?_
  rw [hq]
  rcases hc with hnf | ⟨c', hhit, hcc⟩
  · refine PySem.W.makeFunction_K (mg := X.mg) hcl I.ok.glob hgs hcode (C.keeps I.bk) hP ht hnf hgP BA' fun c' ctv doc h' tk hx' hge hlt hrec htb => ?_
    have hPs : P < s.heap.objs.size := Heap.lt_size hP
    have fc : H c' = none := I.hok.fresh hge
    have ff : H h'.objs.size = none := I.hok.fresh (Nat.le_trans hge (Nat.le_of_lt hlt))
    have nPc : P ≠ c' := Nat.ne_of_lt (Nat.lt_of_lt_of_le hPs hge)
    have nPf : P ≠ h'.objs.size := Nat.ne_of_lt (Nat.lt_trans (Nat.lt_of_lt_of_le hPs hge) hlt)
    have ncf : c' ≠ h'.objs.size := Nat.ne_of_lt hlt
    let fd := PySem.W.fnX name q params body scope clos .none .none doc ((X.mg "__name__").getD .none) none (.ref c') ctv
    let ps' := ps ++ #[rawInt pos.line, rawInt pos.col, .ref c']
    let H1 : Hp := upd (upd (upd H P (.tbl ps')) c' (codeE c' q)) h'.objs.size (fnE h'.objs.size fd)
    have g1 : H1 h'.objs.size = some (fnE h'.objs.size fd) := upd_same
    have g2 : H1 c' = some (codeE c' q) := by show upd _ _ _ c' = _; rw [upd_ne ncf]; exact upd_same
    have g3 : H1 P = some (.tbl ps') := by show upd _ _ _ P = _; rw [upd_ne nPf, upd_ne nPc]; exact upd_same
    have g4 : ∀ b, b ≠ P → b ≠ c' → b ≠ h'.objs.size → H1 b = H b := fun b h1 h2 h3 => by show upd _ _ _ b = _; rw [upd_ne h3, upd_ne h2, upd_ne h1]
    have kept : ∀ b o, b ≠ P → H b = some o → H1 b = some o := fun b o hb e => by
      rw [g4 b hb (fun z => by rw [z, fc] at e; cases e) (fun z => by rw [z, ff] at e; cases e)]; exact e
    have keep : ∀ b o, b ≠ P → s.heap.get? b = some o → (h'.push (PySem.W.fnMade name q params body scope clos doc ((X.mg "__name__").getD .none) c' ctv)).get? b = some o := fun b o hb e => Heap.get?_push_of_some _ (hx' b o hb e)
    have old : ∀ {b o}, s.heap.get? b = some o → b ≠ c' ∧ b ≠ h'.objs.size := fun {b o} e => ⟨Nat.ne_of_lt (Nat.lt_of_lt_of_le (Heap.lt_size e) hge), Nat.ne_of_lt (Nat.lt_trans (Nat.lt_of_lt_of_le (Heap.lt_size e) hge) hlt)⟩
    have un : Un X.fs [] H H1 s.heap (h'.push (PySem.W.fnMade name q params body scope clos doc ((X.mg "__name__").getD .none) c' ctv)) := by
      have nP : ∀ {b}, H b = none → b ≠ P := fun {b} n z => by rw [z, eP] at n; cases n
      refine ⟨fun b o e n _ _ => keep b o (nP n) e, fun b o e n _ _ => ⟨o.slots, keep b o (nP n) e⟩, fun b o e n _ => by rw [g4 b (nP n) (old e).1 (old e).2]; exact n, fun b o e _ => ?_, fun b xs e => kept b _ (fun z => by rw [z, eP] at e; cases e) e, fun b o u e => kept b _ (fun z => by rw [z, eP] at e; cases e) e, fun b p e => ?_⟩
      · by_cases hb : b = P
        · rw [hb]; exact ⟨_, Heap.get?_push_of_some _ htb⟩
        · exact ⟨o, keep b o hb e⟩
      · by_cases hb : b = P
        · rw [hb, eP] at e
          cases e
          exact ⟨_, by rw [hb]; exact g3⟩
        · exact ⟨#[], by rw [kept b _ hb e]; simp⟩
    have hok : HOk X.prog X.w H1 (h'.push (PySem.W.fnMade name q params body scope clos doc ((X.mg "__name__").getD .none) c' ctv)) := fun a o e => by
      by_cases h1 : a = h'.objs.size
      · rw [h1] at e ⊢
        rw [g1] at e
        cases e
        exact fnE_ok (Heap.get?_push_size _ rfl)
      · by_cases h2 : a = c'
        · rw [h2] at e ⊢
          rw [g2] at e
          cases e
          obtain ⟨c2, oc, vs, t, e2, hoc, r⟩ := hrec
          cases e2
          exact codeE_ok ⟨c', oc, vs, t, rfl, Heap.get?_push_of_some _ hoc, r⟩
        · by_cases h3 : a = P
          · rw [h3] at e ⊢
            rw [g3] at e
            cases e
            exact Heap.get?_push_of_some _ htb
          · rw [g4 a h3 h2 h1] at e
            refine (I.hok a o e).stay (fun b u hb q => keep b u ?_ q) (fun b q => kept b _ (fun z => by rw [z, eP] at q; cases q) q) fun b xs q => kept b _ (fun z => by rw [z, eP] at q; cases q) q
            rcases hb with rfl | hb
            · exact h3
            · intro z; rw [z, eP] at hb; cases hb
    have I1 := I.un (t' := tk) un hok
    have hTB : TB P pos q H1 := by
      refine ⟨ps', g3, ?_, .inr ⟨c', ?_, g2⟩⟩
      · show TriplesOk (ps ++ #[rawInt pos.line, rawInt pos.col, .ref c']).toList
        rw [Array.toList_append]; exact TriplesOk_snoc _ _ _ _ ht
      · show codeAmong pos (ps ++ #[rawInt pos.line, rawInt pos.col, .ref c']).toList = _
        rw [Array.toList_append]; exact codeAmong_snoc _ ht hnf
    exact store_ok I1 hN hi hx (v := .ref h'.objs.size) rfl (fun s' I' => h h'.objs.size c' doc ctv H1 s' ff g1 g2 hTB kept I') hf
  · refine PySem.W.makeFunction_hit (mg := X.mg) hcl I.ok.glob hgs hcode (C.keeps I.bk) hP ht hhit BA' fun ctv doc h' tk hk hsz => ?_
    have ff : H h'.objs.size = none := I.hok.fresh hsz
    have I1 := I.laid (a := h'.objs.size) (o := fnE h'.objs.size (PySem.W.fnX name q params body scope clos .none .none doc ((X.mg "__name__").getD .none) none (.ref c') ctv)) (h' := h'.push { cls := .type "function", data := .func (PySem.W.fnX name q params body scope clos .none .none doc ((X.mg "__name__").getD .none) none (.ref c') ctv) }) (t' := tk) (fun b u e => Heap.get?_push_of_some _ (hk b u e)) hsz (fnE_ok (Heap.get?_push_size _ rfl))
    have kept : ∀ b o, H b = some o → upd H h'.objs.size (fnE h'.objs.size (PySem.W.fnX name q params body scope clos .none .none doc ((X.mg "__name__").getD .none) none (.ref c') ctv)) b = some o := fun b o e => by
      rw [upd_ne (fun z => by rw [z, ff] at e; cases e)]; exact e
    exact store_ok I1 hN hi hx (v := .ref h'.objs.size) rfl (fun s' I' => h h'.objs.size c' doc ctv _ s' ff upd_same (kept _ _ hcc) ⟨ps, kept _ _ eP, ht, .inr ⟨c', hhit, kept _ _ hcc⟩⟩ (fun b o _ e => kept b o e) I') hf
end
theorem lookup_in {κ β : Type} [BEq κ] [LawfulBEq κ] : ∀ {l : List (κ × β)} {x : κ} {u : β}, l.lookup x = some u → (x, u) ∈ l
  | (y, w) :: l, x, u, h => by
    rw [List.lookup_cons] at h
    cases e : x == y with
    | true => rw [e] at h; cases h; rw [eq_of_beq e]; simp
    | false => rw [e] at h; exact List.mem_cons_of_mem _ (lookup_in h)
noncomputable def withC (cs : List (Addr × V)) (H : Hp) : Hp := fun b => match cs.lookup b with
  | some v => some (cellE b v)
  | none => H b
section
variable {P : Program} {w : World} {K : PySem.W.Frag} {mg : Str → Option Value} {base : Heap}
theorem fn_maker {k : Nat} {f0 c Pt : Addr} {x0 qual0 : Str} {params0 : Arguments} {scope0 : Scope} {dV kV doc0 pm0 ct0 oc0 : Value} {an0 od0 : Option Addr} {osl : Array (Option Value)} {N ps : List Str} {sp : Sp} {i : Nat}
    {name q : Str} {params : Arguments} {body : List Stmt} {scope : Scope} {pos p1 p2 : Pos} {clos : Addr → List (Str × Addr)}
    (lk : K.lookup f0 = some ⟨oc0, od0, .func (PySem.W.fnOf x0 qual0 params0 [.FunctionDef name params body [] none [] scope none name pos, .Return (some (.Name name p1)) p2] scope0 dV kV doc0 pm0 an0 (.ref c) ct0), osl⟩)
    (hcd : PySem.W.codeIn K (.ref c) qual0 = true) (S : FnScope N ps scope0) (C : PySem.W.CodeHd base c Pt) (BA : base.BuiltinsAt mg Pt) (hi : N[i]? = some name) (hni : ps.length ≤ i) (hloc : scope0.names.lookup name = some .local) (hcells : ∀ x ∈ ps, scope0.names.lookup x = some .cell)
    (hcl : ∀ L, closureFor scope (envOfC qual0 scope0 L f0 (.ref c)) = pure (clos L)) (hclc : ∀ L x cc, (x, cc) ∈ clos L → x ∈ ps ∧ (cellsFrom (L + 1) scope0.names []).lookup x = some cc)
    (hq : qual0 ++ ".<locals>." ++ name = q) (hnk : scope0.names.lookup name ≠ some .globalExplicit) (hd0 : params.defaults = []) (hk0 : params.kw_defaults = []) (ha : ∀ env, annTrees params none env = []) (hdb : (name == ("__debug__" : Str)) = false)
    (len : ∀ vs H Q E, sp vs H Q E → vs.length = ps.length)
    (hsp : ∀ vs H Q E, sp vs H Q E → TB Pt pos q H ∧ ∀ (f c' L : Addr) (doc ctv : Value) (H1 : Hp), H f = none → H1 f = some (fnE f (PySem.W.fnX name q params body scope (clos L) .none .none doc ((mg "__name__").getD .none) none (.ref c') ctv)) → H1 c' = some (codeE c' q) → TB Pt pos q H1 →
      (∀ b o, b ≠ Pt → H b = some o → H1 b = some o) → (∀ x cc, (x, cc) ∈ clos L → H cc = none ∧ ∃ (j : Nat) (v : V), ps[j]? = some x ∧ vs[j]? = some v ∧ H1 cc = some (cellE cc v)) → Q (.ref f) H1) :
    FnOk P w K mg base CX0 (k + 1) f0 (PySem.W.fnOf x0 qual0 params0 [.FunctionDef name params body [] none [] scope none name pos, .Return (some (.Name name p1)) p2] scope0 dV kV doc0 pm0 an0 (.ref c) ct0) ps sp := by
  refine ⟨len, fun A outer s H args us vs Q E hr e0 hb r hsp' => ?_⟩
  have hl := len _ _ _ _ hsp'
  obtain ⟨hT, hend⟩ := hsp vs H Q E hsp'
  have KX : K.In s.heap := e0.mod.kin.keeps fun b o e => (e0.bs b o e).1
  have lim : s.heap.NoLimit := e0.mod.nolimit.keeps fun b o e => (e0.bs b o e).1
  have hkind : ∀ y ∈ ps.zip us, scope0.names.lookup y.1 = some .local ∨ (scope0.names.lookup y.1 = some .cell ∧ ((cellsFrom (s.heap.objs.size + 1) scope0.names []).lookup y.1).isSome = true) := fun ⟨n, v⟩ hy => by
    rcases S.par n (List.of_mem_zip hy).1 with q | q
    · exact .inl q
    · exact .inr ⟨q, PySem.W.cellsFrom_some _ _ _ (.inl q)⟩
  refine codeAny_call_function hr.depth (KX _ _ lk) rfl S.co S.gen rfl (PySem.W.codeRec_of KX hcd) (hb _ _ _ _ ?_)
  refine wpAny_newFunctionEnv_cells S.kind hkind fun env he s1 x => ?_
  subst he
  refine ⟨lim.keeps x.toInCall.keep, codeAny_func ?_⟩
  have I : L2.Inv (cxOf CX0 P w K mg base N qual0 scope0 f0 (.ref c) A outer s H E) [] (start N vs) H s1 := inv_start S hr.hd e0 hl r x
  have hpl : ps.length ≤ N.length := by have := congrArg List.length S.pre; rw [List.length_take] at this; (first | lia | omega)
  have hiN : i < N.length := (List.getElem?_eq_some_iff.mp hi).1
  refine wpAny_execs_cons (def_step (X := cxOf CX0 P w K mg base N qual0 scope0 f0 (.ref c) A outer s H E) (P := Pt) (c := c) (clos := clos s.heap.objs.size) (i := i) (q := q) I hT C BA rfl (hcl _) ?_ S.nd hi (.inl hloc) (.inl rfl) hd0 hk0 (ha _) fun f c' doc ctv H1 s2 ff g1 g2 hTB kept J => ?_)
  · show qualnameIn (envOfC qual0 scope0 s.heap.objs.size f0 (.ref c)) name name = q
    unfold qualnameIn
    rw [if_neg]
    · exact hq
    · intro z
      have z' := eq_of_beq z
      exact hnk z'
  · refine wpAny_execs_cons (wpAny_Return_some ?_)
    obtain ⟨m, hn, hll⟩ := J.loc
    have hsl : (start N vs).length = N.length := by
      unfold L2.start
      rw [List.length_append, List.length_map, List.length_replicate]; (first | lia | omega)
    obtain ⟨u, ru, hlook⟩ := hll i name (.ref f) hi (by rw [List.getElem?_set_self (by rw [hsl]; exact hiN)]) (.inl hloc)
    cases ru
    have hm : m name = some (.ref f) := by
      rcases hlook with ⟨_, e⟩ | ⟨hk, _⟩
      · exact e
      · have hk : scope0.names.lookup name = some .cell ∨ scope0.names.lookup name = some .free := hk
        rw [hloc] at hk
        rcases hk with z | z <;> cases z
    refine wpAny_Name (wpAny_loadName_local J.ok.kind hloc hn hm ?_) hdb
    -- the cells
    let cs : List (Addr × V) := (clos s.heap.objs.size).filterMap fun p => (ps.zip vs).lookup p.1 |>.map fun v => (p.2, v)
    have cval : ∀ y cc, (y, cc) ∈ clos s.heap.objs.size → ∃ (j : Nat) (v : V) (u : Value), ps[j]? = some y ∧ vs[j]? = some v ∧ RelV v u ∧ s2.heap.IsCell cc (some u) := fun y cc hy => by
      obtain ⟨hy1, hy2⟩ := hclc _ y cc hy
      obtain ⟨j, hj⟩ := List.getElem?_of_mem hy1
      have hjl := (List.getElem?_eq_some_iff.mp hj).1
      obtain ⟨v, hv⟩ : ∃ v, vs[j]? = some v := ⟨_, List.getElem?_eq_getElem (by (first | lia | omega))⟩
      have hNj : N[j]? = some y := by
        have : (N.take ps.length)[j]? = some y := by rw [S.pre]; exact hj
        rwa [List.getElem?_take_of_lt hjl] at this
      have hσ : ((start N vs).set i (some (V.ref f)))[j]? = some (some v) := by
        rw [List.getElem?_set_ne (by (first | lia | omega))]
        unfold L2.start
        rw [List.getElem?_append_left (by rw [List.length_map]; (first | lia | omega)), List.getElem?_map, hv]; rfl
      obtain ⟨u, ru, hlk⟩ := hll j y v hNj hσ (.inr (.inl (hcells y hy1)))
      rcases hlk with ⟨hk, _⟩ | ⟨_, c2, hc2, hic⟩
      · have hk : scope0.names.lookup y = some .local := hk
        rw [hcells y hy1] at hk; cases hk
      · have hc2 : (cellsFrom (s.heap.objs.size + 1) scope0.names []).lookup y = some c2 := hc2
        rw [hy2] at hc2
        cases hc2
        exact ⟨j, v, u, hj, hv, ru, hic⟩
    have ndP : ps.Nodup := by rw [← S.pre]; exact S.nd.sublist (List.take_sublist _ _)
    have zipl : ∀ (j : Nat) (y : Str) (v : V), ps[j]? = some y → vs[j]? = some v → (ps.zip vs).lookup y = some v := fun j y v h1 h2 => by
      refine lookup_mem ?_ ?_
      · rw [List.map_fst_zip (by (first | lia | omega))]; exact ndP
      · refine List.mem_of_getElem? (i := j) ?_
        rw [List.getElem?_zip_eq_some]; exact ⟨h1, h2⟩
    have csIn : ∀ y cc, (y, cc) ∈ clos s.heap.objs.size → ∃ (j : Nat) (v : V), ps[j]? = some y ∧ vs[j]? = some v ∧ (cc, v) ∈ cs := fun y cc hy => by
      obtain ⟨j, v, u, h1, h2, _⟩ := cval y cc hy
      exact ⟨j, v, h1, h2, List.mem_filterMap.mpr ⟨(y, cc), hy, by rw [zipl j y v h1 h2]; rfl⟩⟩
    have csOut : ∀ cc v, cs.lookup cc = some v → ∃ y, (y, cc) ∈ clos s.heap.objs.size ∧ ∃ u, RelV v u ∧ s2.heap.IsCell cc (some u) := fun cc v e => by
      have hm := lookup_in e
      obtain ⟨⟨y, c2⟩, hy, e2⟩ := List.mem_filterMap.mp hm
      obtain ⟨j, v2, u, h1, h2, h3, h4⟩ := cval y c2 hy
      rw [zipl j y v2 h1 h2] at e2
      cases e2
      exact ⟨y, hy, u, h3, h4⟩
    have cfree : ∀ y cc, (y, cc) ∈ clos s.heap.objs.size → H cc = none ∧ H1 cc = none ∧ s.heap.get? cc = none := fun y cc hy => by
      have hc2 := (hclc _ y cc hy).2
      have hab := x.above y cc (PySem.mem_of_lookup hc2)
      have hab : s.heap.objs.size < cc := hab
      exact ⟨e0.hok.fresh (Nat.le_of_lt hab), J.freeC y cc hc2, Heap.get?_none_of_le (Nat.le_of_lt hab)⟩
    have w1 : ∀ b, (∀ y, (y, b) ∉ clos s.heap.objs.size) → withC cs H1 b = H1 b := fun b hb => by
      unfold withC
      cases e : cs.lookup b with
      | none => rfl
      | some v =>
        obtain ⟨y, hy, _⟩ := csOut b v e
        exact absurd hy (hb y)
    have w2 : ∀ b o, H1 b = some o → withC cs H1 b = some o := fun b o e => by
      rw [w1 b fun y hy => by rw [(cfree y b hy).2.1] at e; cases e]; exact e
    have hun := J.base
    refine ⟨.ref f, withC cs H1, J.os, J.bare, ⟨hun.keep, hun.slot, fun b o e n hx => ?_, hun.there, fun b xs e => w2 b _ (hun.tups b xs e), fun b o u e => w2 b _ (hun.frzs b o u e), fun b p e => ?_⟩, fun a o e => ?_, rfl, ?_⟩
    · rw [w1 b fun y hy => by have e : s.heap.get? b = some o := e; rw [(cfree y b hy).2.2] at e; cases e]
      exact hun.free b o e n hx
    · obtain ⟨more, e2⟩ := hun.tbls b p e
      exact ⟨more, w2 b _ e2⟩
    · unfold withC at e
      cases ec : cs.lookup a with
      | some v =>
        rw [ec] at e
        cases e
        obtain ⟨y, hy, u, h3, h4⟩ := csOut a v ec
        exact cellE_ok h3 h4
      | none =>
        rw [ec] at e
        exact (J.hok a o e).stay (fun b u _ q => q) (fun b q => w2 b _ q) fun b xs q => w2 b _ q
    · refine hend f c' s.heap.objs.size doc ctv (withC cs H1) ff (w2 _ _ g1) (w2 _ _ g2) ?_ (fun b o hb e => w2 _ _ (kept b o hb e)) fun y cc hy => ⟨(cfree y cc hy).1, ?_⟩
      · obtain ⟨t, t1, t2, t3⟩ := hTB
        refine ⟨t, w2 _ _ t1, t2, ?_⟩
        rcases t3 with t3 | ⟨c2, t4, t5⟩
        · exact .inl t3
        · exact .inr ⟨c2, t4, w2 _ _ t5⟩
      · obtain ⟨j, v, h1, h2, h3⟩ := csIn y cc hy
        refine ⟨j, v, h1, h2, ?_⟩
        unfold withC
        have : ∃ v2, cs.lookup cc = some v2 := by
          cases e : cs.lookup cc with
          | some v2 => exact ⟨v2, rfl⟩
          | none =>
            rw [List.lookup_eq_none_iff] at e
            have := e _ h3
            simp at this
        obtain ⟨v2, e2⟩ := this
        have hm := lookup_in e2
        obtain ⟨⟨y2, c2⟩, hy2, e3⟩ := List.mem_filterMap.mp hm
        have hyy : y2 = y := by
          have e4 : c2 = cc := by
            cases e5 : (ps.zip vs).lookup y2 with
            | none => simp [e5] at e3
            | some v5 => simp [e5] at e3; exact e3.1
          rw [e4] at hy2
          exact J.ok.inj y2 y cc (hclc _ y2 cc hy2).2 (hclc _ y cc hy).2
        rw [hyy] at e3
        rw [show ((ps.zip vs).lookup (y, c2).1) = some v from zipl j y v h1 h2] at e3
        cases e3
        rw [e2]
end
end L3
namespace L3
open PySem PySem.Spec PyProof.Rows L2
noncomputable def OnlyT (P : Addr) (H : Hp) : Prop := H P = some (.tbl #[]) ∧ ∀ b, b ≠ P → H b = none ∨ ∃ o xs, H b = some (.frz o (.lst xs))
theorem law_callT {P : Program} {w : World} {K : PySem.W.Frag} {mg mb : Str → Option Value} {k : Nat} {fa a c Pt : Addr} {fd : FuncData} {x : Str} {sp : Sp} {s₁ : Shared} {vs : List Value} {ns : List Int}
    (KX : K.In s₁.heap) (hns : s₁.heap.Ns mainGlobals mg) (hb : s₁.heap.Ns builtinsNs mb) (hbb : ∀ x : Str, x ≠ "__name__" → mb x = bootBuiltins x) (hlim : s₁.heap.NoLimit) (hg : s₁.gens = #[])
    (ha : s₁.heap.get? a = some { cls := .type "list", data := .seq vs.toArray }) (hi : IntsAre vs ns) (hl : ns.length ≤ sizeLine) (hr : Room k callerA)
    (C : PySem.W.CodeHd s₁.heap c Pt) (hP : s₁.heap.get? Pt = some (PySem.W.tabObj #[])) (hKP : K.lookup Pt = none) (BA : s₁.heap.BuiltinsAt mg Pt)
    (F : ∀ base : Heap, K.In base → base.Ns mainGlobals mg → PySem.W.CodeHd base c Pt → base.BuiltinsAt mg Pt → FnOk P w K mg base CX0 k fa fd [x] sp) (hbind : ∀ (s : Shared) (u : Value), BindsTo s fd ⟨[u], []⟩ [(x, u)])
    (hsp : ∀ H : Hp, OnlyT Pt H → SqL K H a (ns.map V.int) → sp [.ref a] H (fun v _ => v = .bl true) fun _ _ _ => False) :
    codeAny (model P w) callerA (.call (.ref fa) ⟨[.ref a], []⟩) (fun r s' => r = .ok (.ret (.bool true)) ∧ OldK s₁.heap s'.heap ∧ s'.os = s₁.os ∧ AllBare s'.gens) s₁ := by
  have rv := vals_ints hi
  have lenV := hi.length
  have haP : a ≠ Pt := fun z => by rw [z, hP] at ha; cases ha
  have core : ∀ H : Hp, OnlyT Pt H → SqL K H a (ns.map V.int) → HOk P w H s₁.heap → (∀ b, H b ≠ none → b = a ∨ b = Pt) → (H a ≠ none → K.lookup a = none) →
      codeAny (model P w) callerA (.call (.ref fa) ⟨[.ref a], []⟩) (fun r s' => r = .ok (.ret (.bool true)) ∧ OldK s₁.heap s'.heap ∧ s'.os = s₁.os ∧ AllBare s'.gens) s₁ := by
    intro H hO hS hok hA hK
    have base_of : ∀ {b : Addr} {o : Obj}, s₁.heap.get? b = some o → H b = none → (hidT s₁.heap H).get? b = some o := fun e n => hidT_get e n
    have no : ∀ {b : Addr} {o : Obj}, s₁.heap.get? b = some o → o.cls ≠ .type "list" → o.cls ≠ .none → H b = none := fun {b o} e n1 n2 => by
      cases q : H b with
      | none => rfl
      | some u =>
        rcases hA b (by rw [q]; simp) with z | z
        · subst z; rw [ha] at e; cases e; exact absurd rfl n1
        · subst z; rw [hP] at e; cases e; exact absurd rfl n2
    have noA : ∀ {b : Addr} {o : Obj} {es : Array DictEntry} {ep : Nat}, s₁.heap.get? b = some o → o.data = .dict es ep → H b = none := fun {b o es ep} e d => by
      cases q : H b with
      | none => rfl
      | some u =>
        rcases hA b (by rw [q]; simp) with z | z
        · subst z
          rw [ha] at e; cases e
          have d' : Data.seq vs.toArray _ = Data.dict es ep := d
          cases d'
        · subst z
          rw [hP] at e; cases e
          have d' : Data.fields #[] = Data.dict es ep := d
          cases d'
    have nsK : ∀ {b : Addr} {m : Str → Option Value}, s₁.heap.Ns b m → (hidT s₁.heap H).Ns b m := fun {b m} ⟨o, es, ep, e, d, r⟩ => ⟨o, es, ep, base_of e (noA e d), d, r⟩
    have hKb : K.In (hidT s₁.heap H) := fun b o e => base_of (KX b o e) (by
      cases q : H b with
      | none => rfl
      | some u =>
        rcases hA b (by rw [q]; simp) with z | z
        · subst z
          rw [hK (by rw [q]; simp)] at e; cases e
        · subst z
          rw [hKP] at e; cases e)
    have hM : Mod K mg (hidT s₁.heap H) := ⟨hKb, nsK hns, ⟨mb, nsK hb, hbb⟩, let ⟨mc, h1, h2⟩ := hlim; ⟨mc, nsK h1, h2⟩⟩
    have hC : PySem.W.CodeHd (hidT s₁.heap H) c Pt := by
      obtain ⟨o, vs, file, tf, flags, tg, inF, text, tt, e1, r1, r2⟩ := C
      exact ⟨o, vs, file, tf, flags, tg, inF, text, tt, base_of e1 (no e1 (by rw [r1]; decide) (by rw [r1]; exact fun z => nomatch z)), r1, r2⟩
    have hBA : (hidT s₁.heap H).BuiltinsAt mg Pt := by
      obtain ⟨bm, o, b1, b2, b3, b4, b5, b6, r⟩ := BA
      exact ⟨bm, o, b1, b2, b3, b4, base_of b5 (no b5 (by rw [b6]; decide) (by rw [b6]; exact fun z => nomatch z)), b6, r⟩
    have e0 : Env0 P w K mg (hidT s₁.heap H) callerA [] s₁ H := ⟨rfl, hM, fun b o e => of_hidT e, Nat.le_of_eq (hidT_size _ _), trivial, fun b hb => absurd (show b ∈ ([] : List Addr) from hb) (by simp), hok, .of_eq hg⟩
    refine codeAny_mono ((F _ hKb (nsK hns) hC hBA).run callerA [] s₁ H ⟨[.ref a], []⟩ [.ref a] [.ref a] _ _ hr e0 (hbind s₁ (.ref a)) (.cons rfl .nil) (hsp H hO hS)) fun r s' h => ?_
    cases r with
    | error e => exact False.elim h
    | ok fl =>
      cases fl with
      | next => exact False.elim h
      | brk => exact False.elim h
      | cont => exact False.elim h
      | ret u =>
        obtain ⟨v, H', os, bare, un, hok', r', q⟩ := h
        have q' : v = .bl true := q
        subst q'
        obtain rfl : u = Value.bool true := r'
        have all : ∀ b o, b ≠ Pt → s₁.heap.get? b = some o → s'.heap.get? b = some o := fun b o hbP e => by
          cases q : H b with
          | none => exact un.keep b o e q (by intro z; exact absurd (show b ∈ ([] : List Addr) from z) (by simp)) (by simp)
          | some u =>
            rcases hO.2 b hbP with z | ⟨ob, xs, z⟩
            · rw [q] at z; cases z
            · have z2 := un.frzs b ob _ z
              obtain ⟨e1, _⟩ := hok b _ z
              obtain ⟨e2, _⟩ := hok' b _ z2
              rw [e] at e1; cases e1
              exact e2
        obtain ⟨more, hmore⟩ := un.tbls Pt #[] hO.1
        have hP' : s'.heap.get? Pt = some (PySem.W.tabObj (#[] ++ more)) := hok' Pt _ hmore
        refine ⟨rfl, ⟨fun b o e => ?_, fun b o e => ?_⟩, os, bare⟩
        · by_cases hbP : b = Pt
          · subst hbP
            rw [hP] at e
            cases e
            exact .inr (.inl ⟨(C.tab hP).isCodeTable, rfl, #[], more, rfl, hP'⟩)
          · exact .inl (all b o hbP e)
        · by_cases hbP : b = Pt
          · subst hbP; exact ⟨_, hP'⟩
          · exact ⟨o, all b o hbP e⟩
  have okP : ∀ H : Hp, ObjOk P w H s₁.heap Pt (.tbl #[]) := fun H => hP
  cases hk : K.lookup a with
  | some o =>
    have e := KX a o hk
    rw [ha] at e
    cases e
    refine core (fun b => if b = Pt then some (.tbl #[]) else none) ⟨if_pos rfl, fun b hb => .inl (if_neg hb)⟩ (.inr ⟨_, vs.toArray, _, hk, rfl, rfl, rfl, by rw [List.size_toArray, lenV]; exact hl, by simpa using rv⟩) (fun b u z => ?_) (fun b z => ?_) fun z => absurd (if_neg haP) z
    · by_cases hb : b = Pt
      · have z' := (if_pos hb).symm.trans z
        cases z'
        subst hb
        exact okP _
      · have z' := (if_neg hb).symm.trans z
        cases z'
    · by_cases hb : b = Pt
      · exact .inr hb
      · exact absurd (if_neg hb) z
  | none =>
    refine core (fun b => if b = Pt then some (.tbl #[]) else if b = a then some (.frz { cls := .type "list", data := .seq vs.toArray } (.lst (ns.map V.int))) else none) ⟨if_pos rfl, fun b hbP => ?_⟩ (.inl (.inr ⟨{ cls := .type "list", data := .seq vs.toArray }, (if_neg haP).trans (if_pos rfl)⟩)) (fun b u z => ?_) (fun b z => ?_) fun _ => hk
    · by_cases hb : b = a
      · exact .inr ⟨_, _, (if_neg hbP).trans (if_pos hb)⟩
      · exact .inl ((if_neg hbP).trans (if_neg hb))
    · by_cases hbP : b = Pt
      · have z' := (if_pos hbP).symm.trans z
        cases z'
        subst hbP
        exact okP _
      · have z1 := (if_neg hbP).symm.trans z
        by_cases hb : b = a
        · have z' := (if_pos hb).symm.trans z1
          cases z'
          subst hb
          exact ⟨ha, by rw [List.length_map]; exact hl, vs, _, rv, ha⟩
        · have z' := (if_neg hb).symm.trans z1
          cases z'
    · by_cases hbP : b = Pt
      · exact .inr hbP
      · by_cases hb : b = a
        · exact .inl hb
        · exact absurd ((if_neg hbP).trans (if_neg hb)) z
end L3
namespace L3
open PySem PySem.Spec PyProof.Rows L2
theorem tab_in {K : PySem.W.Frag} {x : Str} {f c Pt : Addr} {oc oc2 : Value} {od od2 : Option Addr} {fd : FuncData} {sl sl2 : Array (Option Value)} {vs : Array Value}
    (e1 : PySem.W.nsIn K mainGlobals x = some (some (.ref f))) (e2 : K.lookup f = some ⟨oc, od, .func fd, sl⟩) (e3 : fd.code = .ref c) (e4 : K.lookup c = some ⟨oc2, od2, .fields vs, sl2⟩) (e5 : (vs[11]? : Option Value) = some (.ref Pt)) :
    PySem.W.tabIn K x = some (c, Pt) := by
  unfold PySem.W.tabIn
  rw [e1]; dsimp only
  rw [e2]; dsimp only
  rw [e3]; dsimp only
  rw [e4]; dsimp only
  rw [e5]
theorem walk_ofT {l : PySem.W.OpenLaw} {n k : Nat} {q : Program} {loose : List Str} {XP : (Str → Option Value) → Heap → Prop} {YP : World → Heap → Prop} {d dr : DefRec} {K : Params → PySem.W.Frag} {sp : World → Addr → Sp} {x rd : Str}
    (hn : l.most = some n) (hn2 : n ≤ sizeLine) (hdf : d.params.defaults = []) (hr : Room k callerA)
    (hY : ∀ (w : World) (h : Heap), YP w h → (K w.params).In h)
    (hrec : (recsOf q).find? (fun e => e.name == rd) = some dr)
    (F : ∀ (w : World) (mg : Str → Option Value) (fa : Addr) (h : Heap), (K w.params).In h → h.Ns mainGlobals mg → mg d.name = some (.ref fa) →
      ∃ (fd : FuncData) (c Pt : Addr), (∀ (s : Shared) (u : Value), BindsTo s fd ⟨[u], []⟩ [(x, u)]) ∧ PySem.W.tabIn (K w.params) rd = some (c, Pt) ∧ (K w.params).lookup Pt = none ∧
        ∀ base : Heap, (K w.params).In base → base.Ns mainGlobals mg → PySem.W.CodeHd base c Pt → base.BuiltinsAt mg Pt → FnOk l.prog w (K w.params) mg base CX0 k fa fd [x] (sp w Pt))
    (hsp : ∀ (w : World) (Pt : Addr) (H : Hp) (a : Addr) (ns : List Int), ns.length ≤ n → OnlyT Pt H → SqL (K w.params) H a (ns.map V.int) → sp w Pt [.ref a] H (fun v _ => v = .bl true) fun _ _ _ => False) :
    PySem.W.WalkO q loose XP YP l.row.toRowW d [] (fun f vs => PySem.call f vs) := by
  refine Att.attach_call hn hdf fun w s₀ s₁ mg mb fa o pm cd doc a vs ns G Y ho hd hcd hmg hobj hints hlen hg => ?_
  have KX := hY w _ Y
  obtain ⟨fd, c, Pt, hb, ht, hk, hF⟩ := F w mg fa _ KX G.T.g hmg
  obtain ⟨C, hP⟩ := PySem.W.tab_of G.T KX hrec ht
  have BA : s₁.heap.BuiltinsAt mg Pt := by
    obtain ⟨bm, ob, b1, b2, b3, b4, b5, b6⟩ := G.T.bmain
    refine ⟨bm, ob, b1, b2, fun z => ?_, fun z => ?_, b3, b4, b5, b6⟩
    · obtain ⟨o, es, ep, e, hd, _⟩ := G.T.g
      rw [z, e] at b3; cases b3; rw [hd] at b6; cases b6
    · rw [z, hP] at b3; cases b3; cases b4
  exact law_callT KX G.T.g G.T.b G.T.builtins G.T.nolimit hg hobj hints (Nat.le_trans hlen hn2) hr C hP hk BA hF hb (fun H hO hS => hsp w Pt H a ns hlen hO hS)
end L3
namespace L3
open PySem PySem.Spec PyProof.Rows L2
section
variable {prog : Program} {w : World} {A : Around}
variable {R : Result → Shared → Prop} {it : Addr} {fp wr : List Addr} {n : Nat} {P : Nat → Value → Prop} {St : Nat → Heap → Prop} {kw : List (Str × Value)}
theorem mink_loop (W : Walks prog w A.in1 it fp wr n P St) (bt : Nat → Nat → Bool) (hcmp : CmpOf prog w A.in1 .Lt P bt) (S : Addr) (hSf : S ∉ fp) :
    ∀ (k j : Nat) (s : Shared) (vb : Value) (c : Nat), n = j + 1 + k → St (j + 1) s.heap → P (argBest bt j) vb →
    s.heap.get? S = some { cls := .type "list", dict := none, data := .seq #[vb, vb] c, slots := #[] } →
    (∀ v h' tk, P (argBest bt (n - 1)) v → (∀ b o, b ∉ wr → b ≠ S → s.heap.get? b = some o → h'.get? b = some o) → R (.ok (.ret v)) { s with heap := h', toks := tk }) →
    codeAny (model prog w) A (.builtin "min.loop" ⟨[.ref it, .none, .ref S], kw⟩) R s
  | 0, j, s, vb, c, hn, hst, hPb, hS, hR => by
    have hSw : S ∉ wr := fun h => hSf (W.sub _ h)
    have hin : j + 1 = n := by (first | lia | omega)
    refine codeAny_builtin F.entry_min_loop ?_
    rw [Around.under_plainId F.plain_min_loop _]
    show wpAny _ A.in1 (seqItems? (.ref S) >>= _) _ _ s
    refine wpAny_bind (wpAny_seqItems hS rfl ?_)
    show wpAny _ A.in1 (tryCatch (pyNext (.ref it)) _ >>= _) _ _ s
    refine wpAny_bind (wpAny_tryCatch (W.done s _ _ (hin ▸ hst) fun h' tk hk' => ?_))
    have hS' := hk' S _ hSw hS
    show wpAny _ A.in1 (updateSeq S (fun _ => #[]) >>= _) _ _ _
    refine wpAny_bind (wpAny_updateSeq hS' rfl (wpAny_bind (wpAny_letGo (wpAny_pure ?_))))
    exact hR vb _ tk (by rw [← hin]; exact hPb) fun b o hbw hbS e => (Heap.get?_update_other _ _ (Ne.symm hbS)).trans (hk' b o hbw e)
  | k + 1, j, s, vb, c, hn, hst, hPb, hS, hR => by
    have hSw : S ∉ wr := fun h => hSf (W.sub _ h)
    have hname : (toString "min" ++ toString ".loop" : String) = "min.loop" := by decide
    refine codeAny_builtin F.entry_min_loop ?_
    rw [Around.under_plainId F.plain_min_loop _]
    show wpAny _ A.in1 (seqItems? (.ref S) >>= _) _ _ s
    refine wpAny_bind (wpAny_seqItems hS rfl ?_)
    show wpAny _ A.in1 (tryCatch (pyNext (.ref it)) _ >>= _) _ _ s
    refine wpAny_bind (wpAny_tryCatch (W.item (j + 1) s _ _ (by (first | lia | omega)) hst fun v h' tk hP hst' hk' => ?_))
    have hS' := hk' S _ hSw hS
    show wpAny _ A.in1 (tryCatch (holding [v, v] (richCompare .Lt v vb >>= _)) _ >>= _) _ _ _
    refine wpAny_bind (wpAny_tryCatch (wpAny_holding (wpAny_bind (hcmp (j + 1) (argBest bt j) v vb _ _ _ hP hPb ?_))))
    refine wpAny_bind (wpAny_holding (wpAny_truthy_bool (wpAny_bind (wpAny_letGo (wpAny_pure ?_)))))
    cases hb : bt (j + 1) (argBest bt j) with
    | true =>
      simp only [if_true]
      refine wpAny_bind (wpAny_updateSeq hS' rfl (wpAny_bind (wpAny_letGo ?_)))
      rw [hname]
      refine wpAny_pure ⟨plainId_quiet F.plain_min_loop _, mink_loop W bt hcmp S hSf k (j + 1) _ v _ (by (first | lia | omega)) (W.frame _ _ _ hst' fun b hbf o e => ?_) (by simp only [argBest, hb, if_true]; exact hP) (Heap.get?_update_self _ hS' rfl) fun v' h'' tk'' hP' hk'' => ?_⟩
      · exact (Heap.get?_update_other _ _ (fun h : S = b => hSf (by rw [h]; exact hbf))).trans e
      · exact hR v' h'' tk'' hP' fun b o hbw hbS e => hk'' b o hbw hbS ((Heap.get?_update_other _ _ (Ne.symm hbS)).trans (hk' b o hbw e))
    | false =>
      simp only [Bool.false_eq_true, if_false]
      refine wpAny_bind (wpAny_letGo ?_)
      rw [hname]
      refine wpAny_pure ⟨plainId_quiet F.plain_min_loop _, mink_loop W bt hcmp S hSf k (j + 1) _ vb c (by (first | lia | omega)) hst' (by simp only [argBest, hb, Bool.false_eq_true, if_false]; exact hPb) hS' fun v' h'' tk'' hP' hk'' => ?_⟩
      exact hR v' h'' tk'' hP' fun b o hbw hbS e => hk'' b o hbw hbS (hk' b o hbw e)
theorem mink_first {d : Value} {nm : Str} (W : Walks prog w A.in1 it fp wr n P St) (bt : Nat → Nat → Bool) (hcmp : CmpOf prog w A.in1 .Lt P bt) (S : Addr) (hSf : S ∉ fp) {s : Shared} {c : Nat} (hst : St 0 s.heap)
    (hS : s.heap.get? S = some { cls := .type "list", dict := none, data := .seq #[] c, slots := #[] })
    (hR : ∀ v h' tk, (n = 0 ∧ v = d ∨ 0 < n ∧ P (argBest bt (n - 1)) v) → (∀ b o, b ∉ wr → b ≠ S → s.heap.get? b = some o → h'.get? b = some o) → R (.ok (.ret v)) { s with heap := h', toks := tk }) :
    codeAny (model prog w) A (.builtin "min.loop" ⟨[.ref it, .none, .ref S], [(nm, d)]⟩) R s := by
  have hSw : S ∉ wr := fun h => hSf (W.sub _ h)
  have hname : (toString "min" ++ toString ".loop" : String) = "min.loop" := by decide
  refine codeAny_builtin F.entry_min_loop ?_
  rw [Around.under_plainId F.plain_min_loop _]
  show wpAny _ A.in1 (seqItems? (.ref S) >>= _) _ _ s
  refine wpAny_bind (wpAny_seqItems hS rfl ?_)
  show wpAny _ A.in1 (tryCatch (pyNext (.ref it)) _ >>= _) _ _ s
  rcases Nat.eq_zero_or_pos n with h0 | hn
  · subst h0
    refine wpAny_bind (wpAny_tryCatch (W.done s _ _ hst fun h' tk hk' => ?_))
    refine wpAny_bind (wpAny_rule (wpAny_pure ?_))
    exact hR d h' tk (.inl ⟨rfl, rfl⟩) fun b o hbw hbS e => hk' b o hbw e
  · refine wpAny_bind (wpAny_tryCatch (W.item 0 s _ _ hn hst fun v h' tk hP hst' hk' => ?_))
    have hS' := hk' S _ hSw hS
    show wpAny _ A.in1 (updateSeq S (fun _ => #[v, v]) >>= _) _ _ _
    refine wpAny_bind (wpAny_updateSeq hS' rfl ?_)
    rw [hname]
    refine wpAny_pure ⟨plainId_quiet F.plain_min_loop _, mink_loop W bt hcmp S hSf (n - 1) 0 _ v _ (by (first | lia | omega)) (W.frame _ _ _ hst' fun b hbf o e => ?_) hP (Heap.get?_update_self _ hS' rfl) fun v' h'' tk'' hP' hk'' => ?_⟩
    · exact (Heap.get?_update_other _ _ (fun h : S = b => hSf (by rw [h]; exact hbf))).trans e
    · exact hR v' h'' tk'' (.inr ⟨hn, hP'⟩) fun b o hbw hbS e => hk'' b o hbw hbS ((Heap.get?_update_other _ _ (Ne.symm hbS)).trans (hk' b o hbw e))
theorem args_mind (a d : Value) : argsOk "min" ⟨[a], [("default", d)]⟩ := by unfold argsOk; kernel_rfl
theorem mind_intList {E : Value → Shared → Prop} {s : Shared} {l : Addr} {xs : Array (Int × Tok)} {d : Value} {Q : Value → Shared → Prop} (hh : A.handled = none) (hl : s.heap.IsList l (intItems xs))
    (h : ∀ v h' tk, (xs.size = 0 ∧ v = d ∨ 0 < xs.size ∧ (intItems xs)[argBest (fun i j => decide (numAt xs i < numAt xs j)) (xs.size - 1)]? = some v) → (∀ b o, s.heap.get? b = some o → h'.get? b = some o) → Q v { s with heap := h', toks := tk }) :
    wpAny (model prog w) A (call (.builtin "min") [.ref l] [("default", d)]) Q E s := by
  have hname : (toString "min" ++ toString ".loop" : String) = "min.loop" := by decide
  refine call_tree_kw F.kind_min F.plain_min F.entry_min (args_mind _ _) ?_
  show wpAny _ A.in1 (Builtin.Builtins.bindParams "min" ["key", "default"] 0 ⟨[], [("default", d)]⟩ >>= _) _ _ s
  refine wpAny_bind (wpAny_of_eq (show Builtin.Builtins.bindParams "min" ["key", "default"] 0 ⟨[], [("default", d)]⟩ = pure [none, some d] from rfl) ?_)
  refine wpAny_bind (wpAny_pure ?_)
  refine wpAny_bind (iter_intList hl fun s₂ e st hfp hlI => ?_)
  subst e
  refine wpAny_bind (wpAny_newObj_type ?_)
  rw [hname]
  have W := Walks.list (prog := prog) (w := w) (A := A.in1) hh s.heap.objs.size l hlI (intItems xs)
  refine wpAny_pure ⟨plainId_quiet F.plain_min_loop _, mink_first (d := d) W _ (CmpOf.ints_lt (numAt xs) (fun _ _ => intItems_at)) _ (fun hm => Nat.lt_irrefl _ (hfp _ hm)) (W.frame _ _ _ st fun b _ o e => Heap.get?_push_of_some _ e) (Heap.get?_push_size _ rfl) fun v h' tk hv hk => ?_⟩
  refine h v h' tk (by simpa [intItems] using hv) (old_kept fun b o hbw e => hk b o hbw (Nat.ne_of_lt (Heap.lt_size e)) (Heap.get?_push_of_some _ e))
end
section
variable {X : Cx}
noncomputable def tMaxN (K : PySem.W.Frag) (ta : TA) (te : TE) : TE := fun σ H Q => ta σ H fun vs H1 => te σ H1 fun x H2 => ∃ (p : Addr) (ns : List Int), vs = [.ref p] ∧ SqL K H2 p (ns.map V.int) ∧ (ns = [] → Q x H2) ∧ ∀ M, M ∈ ns → (∀ a ∈ ns, a ≤ M) → Q (.int M) H2
theorem pe_maxN {e d : Expr} {ta : TA} {te : TE} {p kp pos : Pos} (hc : X.calm = true) (hg : Gl X "max") (hm : X.mg "max" = none) (hv : bootBuiltins "max" = some (.builtin "max")) (ha : PA X [e] ta) (hd : PE X d te) (he : starEach [e] X.env = [(false, eval e X.env)]) :
    PE X (.Call (.Name "max" p) [e] [⟨some "default", d, kp⟩] pos) (tMaxN X.K ta te) := by
  intro pins s σ H Q I h
  refine wpAny_Call_Name_kw (ld_blt I hg hm hv ?_)
  refine PyProof.Rows.callWith_kw (thn (ha pos pins s σ H _ I h) fun us s1 ⟨vs, H1, I1, r1, q1⟩ => ?_) (by rw [he]; rfl) (by rw [he]; rfl)
  refine kws_cons (thn (hd pins s1 σ H1 _ I1 q1) fun v s2 hh => ?_)
  obtain ⟨x, H2, I2, r2, q2⟩ := hh
  refine kws_nil ?_
  obtain ⟨q, ns, rfl, hq, g0, g⟩ := q2
  obtain ⟨u, rfl, ru⟩ := vals1 r1
  cases ru
  obtain ⟨its, r, pl, hz⟩ := I2.list hq
  have hi := intsAre_of r
  obtain ⟨ys, e'⟩ := hi.allInts.items
  have hns : ns = ys.toList.map (·.1) := by rw [← hi.numsOf, ← nums_intItems, ← e']
  have hl := pl.isList
  rw [e'] at hl
  refine maxd_intList (I2.ok.hd hc) hl fun v' h' tk hv hk => ?_
  rcases hv with ⟨h0, rfl⟩ | ⟨hsz, hv⟩
  · refine ⟨x, H2, I2.kept hk, r2, g0 ?_⟩
    rw [hns]
    have : ys = #[] := Array.eq_empty_of_size_eq_zero h0
    rw [this]; rfl
  · obtain ⟨t, rfl⟩ := intItems_at hv
    obtain ⟨h1, h2⟩ := argBest_gt (numAt ys) (ys.size - 1)
    refine ⟨.int _, H2, I2.kept hk, ⟨t, rfl⟩, g _ ?_ fun a ha => ?_⟩
    · rw [hns, numAt_eq]; exact getD_mem (by rw [List.length_map, Array.length_toList]; (first | lia | omega))
    · rw [hns] at ha
      obtain ⟨j, hj, rfl⟩ := mem_getD ha
      rw [List.length_map, Array.length_toList] at hj
      rw [← numAt_eq]; exact h2 j (by (first | lia | omega))
theorem qMaxN {e d : Expr} {ta : TA} {te : TE} {p kp pos : Pos} (K : PySem.W.Frag) (hg : Gl X "max") (hm : X.mg "max" = none) (hv : bootBuiltins "max" = some (.builtin "max")) (ha : QA X [e] ta) (hd : QE X d te) (h : notStar e = true := by rfl) (hc : X.calm = true := by rfl) (hK : X.K = K := by rfl) :
    QE X (.Call (.Name "max" p) [e] [⟨some "default", d, kp⟩] pos) (tMaxN K ta te) := by
  subst hK
  exact .mk (pe_maxN hc hg hm hv ha.un hd.un (by rw [star_cons h, star_nil]))
noncomputable def tMinN (K : PySem.W.Frag) (ta : TA) (te : TE) : TE := fun σ H Q => ta σ H fun vs H1 => te σ H1 fun x H2 => ∃ (p : Addr) (ns : List Int), vs = [.ref p] ∧ SqL K H2 p (ns.map V.int) ∧ (ns = [] → Q x H2) ∧ ∀ M, M ∈ ns → (∀ a ∈ ns, M ≤ a) → Q (.int M) H2
theorem pe_minN {e d : Expr} {ta : TA} {te : TE} {p kp pos : Pos} (hc : X.calm = true) (hg : Gl X "min") (hm : X.mg "min" = none) (hv : bootBuiltins "min" = some (.builtin "min")) (ha : PA X [e] ta) (hd : PE X d te) (he : starEach [e] X.env = [(false, eval e X.env)]) :
    PE X (.Call (.Name "min" p) [e] [⟨some "default", d, kp⟩] pos) (tMinN X.K ta te) := by
  intro pins s σ H Q I h
  refine wpAny_Call_Name_kw (ld_blt I hg hm hv ?_)
  refine PyProof.Rows.callWith_kw (thn (ha pos pins s σ H _ I h) fun us s1 ⟨vs, H1, I1, r1, q1⟩ => ?_) (by rw [he]; rfl) (by rw [he]; rfl)
  refine kws_cons (thn (hd pins s1 σ H1 _ I1 q1) fun v s2 hh => ?_)
  obtain ⟨x, H2, I2, r2, q2⟩ := hh
  refine kws_nil ?_
  obtain ⟨q, ns, rfl, hq, g0, g⟩ := q2
  obtain ⟨u, rfl, ru⟩ := vals1 r1
  cases ru
  obtain ⟨its, r, pl, hz⟩ := I2.list hq
  have hi := intsAre_of r
  obtain ⟨ys, e'⟩ := hi.allInts.items
  have hns : ns = ys.toList.map (·.1) := by rw [← hi.numsOf, ← nums_intItems, ← e']
  have hl := pl.isList
  rw [e'] at hl
  refine mind_intList (I2.ok.hd hc) hl fun v' h' tk hv hk => ?_
  rcases hv with ⟨h0, rfl⟩ | ⟨hsz, hv⟩
  · refine ⟨x, H2, I2.kept hk, r2, g0 ?_⟩
    rw [hns]
    have : ys = #[] := Array.eq_empty_of_size_eq_zero h0
    rw [this]; rfl
  · obtain ⟨t, rfl⟩ := intItems_at hv
    obtain ⟨h1, h2⟩ := argBest_lt (numAt ys) (ys.size - 1)
    refine ⟨.int _, H2, I2.kept hk, ⟨t, rfl⟩, g _ ?_ fun a ha => ?_⟩
    · rw [hns, numAt_eq]; exact getD_mem (by rw [List.length_map, Array.length_toList]; (first | lia | omega))
    · rw [hns] at ha
      obtain ⟨j, hj, rfl⟩ := mem_getD ha
      rw [List.length_map, Array.length_toList] at hj
      rw [← numAt_eq]; exact h2 j (by (first | lia | omega))
theorem qMinN {e d : Expr} {ta : TA} {te : TE} {p kp pos : Pos} (K : PySem.W.Frag) (hg : Gl X "min") (hm : X.mg "min" = none) (hv : bootBuiltins "min" = some (.builtin "min")) (ha : QA X [e] ta) (hd : QE X d te) (h : notStar e = true := by rfl) (hc : X.calm = true := by rfl) (hK : X.K = K := by rfl) :
    QE X (.Call (.Name "min" p) [e] [⟨some "default", d, kp⟩] pos) (tMinN K ta te) := by
  subst hK
  exact .mk (pe_minN hc hg hm hv ha.un hd.un (by rw [star_cons h, star_nil]))
theorem qFv {x : Str} {p pos : Pos} {e : Expr} {es : List Expr} {t : TA} (i : Nat) (ha : QA X (e :: es) t) (hN : X.N[i]? = some x := by rfl) (hv : Vis X.env.scope x := by first | exact Or.inl rfl | exact Or.inr (Or.inl rfl) | exact Or.inr (Or.inr rfl)) (h : (e :: es).all notStar = true := by rfl) (hd : (x == ("__debug__" : Str)) = false := by decide) (hcd : (x == ("__classdict__" : Str)) = false := by decide) :
    QE X (.Call (.Name x p) (e :: es) [] pos) (tCallV X i t) := by
  have h1 : notStar e = true := by rw [List.all_cons, Bool.and_eq_true] at h; exact h.1
  have h2 : es.all notStar = true := by rw [List.all_cons, Bool.and_eq_true] at h; exact h.2
  exact .mk (pe_callV hN hv ha.un hd hcd (star_cons h1) (star_any es h2))
end
end L3
namespace L3
open PySem PySem.Spec PyProof.Rows L2
theorem snever {X : Cx} {st : Stmt} : QS X st (fun _ _ _ => False) := .mk (fun _ _ _ _ _ _ h => h.elim)
section
variable {X : Cx}
end
end L3
namespace L3
open PySem PySem.Spec PyProof.Rows L2
theorem met_nodup (val : Nat → Int) : ∀ i, (firstMet val i).Nodup
  | 0 => by rw [firstMet_zero]; exact List.nodup_nil
  | i + 1 => by
    rw [firstMet_succ]
    have ih := met_nodup val i
    unfold step_dedup
    split
    · exact ih
    · rename_i h
      refine List.nodup_append.mpr ⟨ih, by simp, fun a ha b hb => ?_⟩
      rw [List.mem_singleton] at hb
      intro e
      apply h
      rw [List.any_eq_true]
      exact ⟨a, ha, by rw [e, hb]; simp⟩
theorem range_getD (ns : List Int) : (List.range ns.length).map (fun i => ns.getD i 0) = ns := by
  apply List.ext_getElem
  · simp
  · intro i h1 h2
    rw [List.getElem_map, List.getElem_range, List.getD_eq_getElem?_getD, List.getElem?_eq_getElem h2]; rfl
section
variable {X : Cx}
end
end L3
namespace L3
open PySem PySem.Spec PyProof.Rows L2
theorem sub_len : ∀ {xs P : List Int}, xs.Nodup → (∀ x ∈ xs, x ∈ P) → xs.length ≤ P.length
  | [], _, _, _ => Nat.zero_le _
  | x :: xs, P, hn, hs => by
    have hx := hs x (List.mem_cons_self ..)
    have hn' := List.nodup_cons.mp hn
    have h1 := sub_len (xs := xs) (P := P.erase x) hn'.2 fun y hy => (List.mem_erase_of_ne (fun e => hn'.1 (by rw [← e]; exact hy))).mpr (hs y (List.mem_cons_of_mem _ hy))
    rw [List.length_erase_of_mem hx] at h1
    have := List.length_pos_of_mem hx
    rw [List.length_cons]; (first | lia | omega)
theorem sub_full : ∀ {ns l : List Int}, l.Nodup → (∀ x ∈ l, x ∈ ns) → l.length = ns.length → ns.Nodup
  | [], _, _, _, _ => List.nodup_nil
  | x :: ns, l, hn, hs, hl => by
    rw [List.length_cons] at hl
    have hx : x ∉ ns := fun z => by
      have := sub_len (P := ns) hn fun y hy => by
        rcases List.mem_cons.mp (hs y hy) with e | e
        · rw [e]; exact z
        · exact e
      (first | lia | omega)
    have hxl : x ∈ l := Classical.byContradiction fun z => by
      have := sub_len (P := ns) hn fun y hy => by
        rcases List.mem_cons.mp (hs y hy) with e | e
        · exact absurd (by rw [← e]; exact hy) z
        · exact e
      (first | lia | omega)
    refine List.nodup_cons.mpr ⟨hx, sub_full (l := l.erase x) (hn.erase x) (fun y hy => ?_) ?_⟩
    · have h1 := (List.Nodup.mem_erase_iff hn).mp hy
      exact (List.mem_cons.mp (hs y h1.2)).resolve_left h1.1
    · rw [List.length_erase_of_mem hxl]; (first | lia | omega)
theorem met_all (ns : List Int) : (firstMet (fun i => ns.getD i 0) ns.length).length ≤ ns.length ∧ ((firstMet (fun i => ns.getD i 0) ns.length).length = ns.length ↔ ns.Nodup) := by
  have hm : ∀ k, k ∈ firstMet (fun i => ns.getD i 0) ns.length ↔ k ∈ ns := fun k => by
    have := firstMet_any (fun i => ns.getD i 0) ns.length k
    rw [range_getD] at this
    have key : ∀ l : List Int, l.any (· == k) = true ↔ k ∈ l := fun l => by
      rw [List.any_eq_true]
      constructor
      · rintro ⟨x, hx, e⟩
        rw [← eq_of_beq e]; exact hx
      · intro h; exact ⟨k, h, by simp⟩
    rw [← key, ← key, this]
  have hn := met_nodup (fun i => ns.getD i 0) ns.length
  generalize firstMet (fun i => ns.getD i 0) ns.length = l at hm hn
  have h1 := sub_len (P := ns) hn fun y hy => (hm y).mp hy
  refine ⟨h1, fun h => sub_full hn (fun y hy => (hm y).mp hy) h, fun h => ?_⟩
  have := sub_len (P := l) h fun y hy => (hm y).mpr hy
  (first | lia | omega)
section
variable {X : Cx}
noncomputable def tLenSetX (K : PySem.W.Frag) (ta : TA) : TE := fun σ H Q => ta σ H fun vs H1 => ∃ (a : Addr) (ns : List Int), vs = [.ref a] ∧ SqL K H1 a (ns.map V.int) ∧ ns.length ≤ 1000 ∧ ∀ m : Nat, m ≤ ns.length → (m = ns.length ↔ ns.Nodup) → Q (.int (m : Int)) H1
theorem pe_lenSetX {e : Expr} {ta : TA} {p1 p2 pos1 pos : Pos} (hc : X.calm = true) (hg : Gl X "len") (hm : X.mg "len" = none) (hg2 : Gl X "set") (hm2 : X.mg "set" = none) (ha : PA X [e] ta) (hs : starEach [e] X.env = [(false, eval e X.env)]) :
    PE X (.Call (.Name "len" p1) [.Call (.Name "set" p2) [e] [] pos1] [] pos) (tLenSetX X.K ta) := by
  intro pins s σ H Q I h
  refine Call_ (ld_blt I hg hm bt_len (Calls.callWith_builtin rfl (Calls.evalArgs_plain (Calls.spliced_cons ?_))))
  refine Call_ (ld_blt I hg2 hm2 bt_set (PyProof.Rows.callWith_type1 (thn (ha pos1 pins s σ H _ I h) fun us s1 ⟨vs, H1, I1, r1, q1⟩ => ?_) hs rfl))
  obtain ⟨a, ns, e, hL, hlen, q⟩ := q1
  subst e
  obtain ⟨u, rfl, ru⟩ := vals1 r1
  cases ru
  obtain ⟨its, r, hl, hz⟩ := I1.list hL
  have hi : IntsAre its.toArray.toList ns := intsAre_of r
  have hl2 : its.length = ns.length := by have := r.length; rw [List.length_map] at this; exact this.symm
  have hl3 : its.toArray.size = ns.length := by rw [List.size_toArray, hl2]
  refine call_set_list (I1.ok.hd hc) hl.isList hi (by rw [hl3]; unfold scanBound; (first | lia | omega)) fun h' tk hS hk => ?_
  rw [hl3] at hS
  refine Calls.spliced_nil ?_
  obtain ⟨o, es, ep, t, ho, hex, hd, _, _, hsc, hf, hn⟩ := hS
  have hm1 := met_all ns
  rw [← hn] at hm1
  refine call_len_set ho hex hd hf (by unfold scanBound at hsc; (first | lia | omega)) ?_
  refine ⟨.int (es.size : Int), H1, I1.kept (t' := tk + 1 + 1) (fun b o e => hk b o (Heap.lt_size e) e), ⟨_, rfl⟩, q _ hm1.1 hm1.2⟩
theorem qLenSetX {e : Expr} {ta : TA} {p1 p2 pos1 pos : Pos} (K : PySem.W.Frag) (hg : Gl X "len") (hm : X.mg "len" = none) (hg2 : Gl X "set") (hm2 : X.mg "set" = none) (ha : QA X [e] ta) (h : notStar e = true := by rfl) (hc : X.calm = true := by rfl) (hK : X.K = K := by rfl) :
    QE X (.Call (.Name "len" p1) [.Call (.Name "set" p2) [e] [] pos1] [] pos) (tLenSetX K ta) := by
  subst hK
  exact .mk (pe_lenSetX hc hg hm hg2 hm2 ha.un (by rw [star_cons h, star_nil]))
end
end L3
namespace L3
open PySem L2
theorem for_listN {K : PySem.W.Frag} {a : Addr} {xs : List V} {g : TG} {tb : TS} {D : Ends} {σ : L2.St} {H : Hp} (Pv : Nat → L2.St → Hp → Prop) (h0 : Pv 0 σ H) (hl : ∀ i σ H, i ≤ xs.length → Pv i σ H → SqL K H a xs)
    (hs : ∀ (N B : L2.St → Hp → Prop) (R : VK) i x σ H, xs[i]? = some x → (∀ σ H, Pv (i + 1) σ H → N σ H) → (∀ σ H, D.nx σ H → B σ H) → (∀ v H, D.rt v H → R v H) → Pv i σ H → g x σ H fun σ2 H2 => tb ⟨N, R, B, N⟩ σ2 H2) (hd : ∀ σ H, Pv xs.length σ H → D.nx σ H) :
    ∃ W : Nat → Nat → L2.St → Hp → Prop, (∃ m, W 0 m σ H) ∧ ∀ i m σ H, W i m σ H →
      ((Itl K a).stop i H ∧ D.nx σ H) ∨ ((Itl K a).go i H ∧ ∃ N : L2.St → Hp → Prop, (∀ σ' H', N σ' H' → ∃ m', m' < m ∧ W (i + 1) m' σ' H') ∧ ∀ x H', (Itl K a).yld i H x H' → g x σ H' fun σ2 H2 => tb { D with nx := N, ct := N, bk := D.nx } σ2 H2) :=
  for_list Pv h0 hl (fun i x σ H hx hp => hs _ _ _ i x σ H hx (fun _ _ h => h) (fun _ _ h => h) (fun _ _ h => h) hp) hd
end L3
namespace K36
open PySem L2 L3
noncomputable def top (i : Nat) : Stmt := PySem.Challenge.pw_leafpages_k36_whole_a_store_read_page_by.main.body.getD i (.Pass ⟨0, 0, 0, 0⟩)
noncomputable abbrev s_keys_of : Stmt := top 7
theorem sc_keys_of : FnScope ["tree"] ["tree"] (defScope s_keys_of) := ⟨rfl, rfl, rfl, by decide +kernel, rfl, by decide +kernel, by decide +kernel⟩
noncomputable abbrev s_side_towards : Stmt := top 8
theorem sc_side_towards : FnScope ["tree", "key"] ["tree", "key"] (defScope s_side_towards) := ⟨rfl, rfl, rfl, by decide +kernel, rfl, by decide +kernel, by decide +kernel⟩
noncomputable abbrev s_knot_at : Stmt := top 9
theorem sc_knot_at : FnScope ["tree", "key"] ["tree", "key"] (defScope s_knot_at) := ⟨rfl, rfl, rfl, by decide +kernel, rfl, by decide +kernel, by decide +kernel⟩
noncomputable abbrev s_way_to : Stmt := top 10
theorem sc_way_to : FnScope ["tree", "key", "way"] ["tree", "key"] (defScope s_way_to) := ⟨rfl, rfl, rfl, by decide +kernel, rfl, by decide +kernel, by decide +kernel⟩
noncomputable abbrev s_with_key : Stmt := top 11
theorem sc_with_key : FnScope ["tree", "key"] ["tree", "key"] (defScope s_with_key) := ⟨rfl, rfl, rfl, by decide +kernel, rfl, by decide +kernel, by decide +kernel⟩
noncomputable abbrev s_put : Stmt := top 12
theorem sc_put : FnScope ["tree", "key"] ["tree", "key"] (defScope s_put) := ⟨rfl, rfl, rfl, by decide +kernel, rfl, by decide +kernel, by decide +kernel⟩
noncomputable abbrev s_tree_of : Stmt := top 13
theorem sc_tree_of : FnScope ["keys", "tree", "key"] ["keys"] (defScope s_tree_of) := ⟨rfl, rfl, rfl, by decide +kernel, rfl, by decide +kernel, by decide +kernel⟩
noncomputable abbrev s_spots_by_key : Stmt := top 15
theorem sc_spots_by_key : FnScope ["layout", "spots", "number", "page", "place", "key"] ["layout"] (defScope s_spots_by_key) := ⟨rfl, rfl, rfl, by decide +kernel, rfl, by decide +kernel, by decide +kernel⟩
noncomputable abbrev s_spot_of : Stmt := top 16
theorem sc_spot_of : FnScope ["tree", "spots"] ["tree", "spots"] (defScope s_spot_of) := ⟨rfl, rfl, rfl, by decide +kernel, rfl, by decide +kernel, by decide +kernel⟩
noncomputable abbrev s_slot_of : Stmt := top 17
theorem sc_slot_of : FnScope ["tree", "key", "spots", "knot"] ["tree", "key", "spots"] (defScope s_slot_of) := ⟨rfl, rfl, rfl, by decide +kernel, rfl, by decide +kernel, by decide +kernel⟩
noncomputable abbrev s_slots_of : Stmt := top 18
theorem sc_slots_of : FnScope ["tree", "page", "spots"] ["tree", "page", "spots"] (defScope s_slots_of) := ⟨rfl, rfl, rfl, by decide +kernel, rfl, by decide +kernel, by decide +kernel⟩
noncomputable abbrev s_stored : Stmt := top 19
theorem sc_stored : FnScope ["tree", "layout", "spots"] ["tree", "layout"] (defScope s_stored) := ⟨rfl, rfl, rfl, by decide +kernel, rfl, by decide +kernel, by decide +kernel⟩
noncomputable abbrev s_spot_towards : Stmt := top 20
theorem sc_spot_towards : FnScope ["slot", "key"] ["slot", "key"] (defScope s_spot_towards) := ⟨rfl, rfl, rfl, by decide +kernel, rfl, by decide +kernel, by decide +kernel⟩
noncomputable abbrev s_keys_along : Stmt := top 21
theorem sc_keys_along : FnScope ["read", "top", "key", "way", "spot", "lying_open", "slots", "slot"] ["read", "top", "key"] (defScope s_keys_along) := ⟨rfl, rfl, rfl, by decide +kernel, rfl, by decide +kernel, by decide +kernel⟩
noncomputable abbrev s_looked_up : Stmt := top 22
theorem sc_looked_up : FnScope ["read", "top", "key"] ["read", "top", "key"] (defScope s_looked_up) := ⟨rfl, rfl, rfl, by decide +kernel, rfl, by decide +kernel, by decide +kernel⟩
noncomputable abbrev s_nearest : Stmt := top 23
theorem sc_nearest : FnScope ["read", "top", "key", "way", "lower", "upper"] ["read", "top", "key"] (defScope s_nearest) := ⟨rfl, rfl, rfl, by decide +kernel, rfl, by decide +kernel, by decide +kernel⟩
noncomputable abbrev s_slot_at : Stmt := top 24
theorem sc_slot_at : FnScope ["read", "kept", "spot"] ["read", "kept", "spot"] (defScope s_slot_at) := ⟨rfl, rfl, rfl, by decide +kernel, rfl, by decide +kernel, by decide +kernel⟩
noncomputable abbrev s_keys_within : Stmt := top 25
theorem sc_keys_within : FnScope ["read", "kept", "spot", "low", "high", "slot", "key", "told"] ["read", "kept", "spot", "low", "high"] (defScope s_keys_within) := ⟨rfl, rfl, rfl, by decide +kernel, rfl, by decide +kernel, by decide +kernel⟩
noncomputable abbrev s_between : Stmt := top 26
theorem sc_between : FnScope ["read", "top", "low", "high"] ["read", "top", "low", "high"] (defScope s_between) := ⟨rfl, rfl, rfl, by decide +kernel, rfl, by decide +kernel, by decide +kernel⟩
noncomputable abbrev s_page_numbers : Stmt := top 28
theorem sc_page_numbers : FnScope ["layout", "numbers", "number", "page", "key"] ["layout"] (defScope s_page_numbers) := ⟨rfl, rfl, rfl, by decide +kernel, rfl, by decide +kernel, by decide +kernel⟩
noncomputable abbrev s_numbers_along : Stmt := top 29
theorem sc_numbers_along : FnScope ["tree", "layout", "key", "numbers"] ["tree", "layout", "key"] (defScope s_numbers_along) := ⟨rfl, rfl, rfl, by decide +kernel, rfl, by decide +kernel, by decide +kernel⟩
noncomputable abbrev s_pages_met : Stmt := top 30
theorem sc_pages_met : FnScope ["tree", "layout", "key", "met", "number"] ["tree", "layout", "key"] (defScope s_pages_met) := ⟨rfl, rfl, rfl, by decide +kernel, rfl, by decide +kernel, by decide +kernel⟩
noncomputable abbrev s_page_turns : Stmt := top 31
theorem sc_page_turns : FnScope ["tree", "layout", "key", "turns", "lying_open", "number"] ["tree", "layout", "key"] (defScope s_page_turns) := ⟨rfl, rfl, rfl, by decide +kernel, rfl, by decide +kernel, by decide +kernel⟩
noncomputable abbrev s_law_pen : Stmt := top 33
theorem sc_law_pen : FnScope ["_law_script", "_law_k", "_law_cell"] ["_law_script", "_law_k"] (defScope s_law_pen) := ⟨rfl, rfl, rfl, by decide +kernel, rfl, by decide +kernel, by decide +kernel⟩
noncomputable abbrev s_law_take : Stmt := top 34
theorem sc_law_take : FnScope ["_law_pen_here", "_law_many", "_law_digit", "_law_one"] ["_law_pen_here", "_law_many"] (defScope s_law_take) := ⟨rfl, rfl, rfl, by decide +kernel, rfl, by decide +kernel, by decide +kernel⟩
noncomputable abbrev s_law_middles : Stmt := top 35
theorem sc_law_middles : FnScope ["_law_low", "_law_high", "_law_middle", "_law_one", "_law_other"] ["_law_low", "_law_high"] (defScope s_law_middles) := ⟨rfl, rfl, rfl, by decide +kernel, rfl, by decide +kernel, by decide +kernel⟩
noncomputable abbrev s_law_ranks : Stmt := top 36
theorem sc_law_ranks : FnScope ["_law_pen_here", "_law_many", "_law_shape", "_law_ranks_here", "_law_k"] ["_law_pen_here", "_law_many"] (defScope s_law_ranks) := ⟨rfl, rfl, rfl, by decide +kernel, rfl, by decide +kernel, by decide +kernel⟩
noncomputable abbrev s_law_keys : Stmt := top 37
theorem sc_law_keys : FnScope ["_law_pen_here", "_law_most", "_law_many", "_law_gap", "_law_first", "_law_bent"] ["_law_pen_here", "_law_most"] (defScope s_law_keys) := ⟨rfl, rfl, rfl, by decide +kernel, rfl, by decide +kernel, by decide +kernel⟩
noncomputable abbrev s_law_ups : Stmt := top 38
theorem sc_law_ups : FnScope ["_law_tree", "_law_up", "_law_some"] ["_law_tree", "_law_up"] (defScope s_law_ups) := ⟨rfl, rfl, rfl, by decide +kernel, rfl, by decide +kernel, by decide +kernel⟩
noncomputable abbrev s_law_shuffled : Stmt := top 39
theorem sc_law_shuffled : FnScope ["_law_pen_here", "_law_some", "_law_mixed", "_law_one"] ["_law_pen_here", "_law_some"] (defScope s_law_shuffled) := ⟨rfl, rfl, rfl, by decide +kernel, rfl, by decide +kernel, by decide +kernel⟩
noncomputable abbrev s_law_layout : Stmt := top 40
theorem sc_law_layout : FnScope ["_law_pen_here", "_law_tree", "_law_keys_here", "_law_room", "_law_ups_here", "_law_sort", "_law_pages", "_law_spots", "_law_key", "_law_free", "_law_at"] ["_law_pen_here", "_law_tree", "_law_keys_here", "_law_room"] (defScope s_law_layout) := ⟨rfl, rfl, rfl, by decide +kernel, rfl, by decide +kernel, by decide +kernel⟩
noncomputable abbrev s_law_reader : Stmt := top 41
theorem sc_law_reader : FnScope ["_law_rows", "_law_notes", "_law_tells"] ["_law_rows", "_law_notes"] (defScope s_law_reader) := ⟨rfl, rfl, rfl, by decide +kernel, rfl, by decide +kernel, by decide +kernel⟩
noncomputable abbrev s_law_tells : Stmt := (defBody s_law_reader).getD 0 (.Pass ⟨0, 0, 0, 0⟩)
theorem sc_law_tells : CloScope ["_law_number", "_law_rows", "_law_notes"] ["_law_number"] (defScope s_law_tells) := ⟨rfl, rfl, rfl, by decide +kernel, rfl, by decide +kernel, by decide +kernel⟩
noncomputable abbrev s_law_once : Stmt := top 42
theorem sc_law_once : FnScope ["_law_numbers", "_law_some", "_law_number"] ["_law_numbers"] (defScope s_law_once) := ⟨rfl, rfl, rfl, by decide +kernel, rfl, by decide +kernel, by decide +kernel⟩
noncomputable abbrev s_law_looked_up : Stmt := top 43
theorem sc_law_looked_up : FnScope ["_law_tree", "_law_pages", "_law_key", "_law_there", "_law_top", "_law_rows", "_law_kept", "_law_notes"] ["_law_tree", "_law_pages", "_law_key", "_law_there"] (defScope s_law_looked_up) := ⟨rfl, rfl, rfl, by decide +kernel, rfl, by decide +kernel, by decide +kernel⟩
noncomputable abbrev s_law_neighbours : Stmt := top 44
theorem sc_law_neighbours : FnScope ["_law_tree", "_law_pages", "_law_keys_here", "_law_k", "_law_top", "_law_rows", "_law_tells", "_law_after"] ["_law_tree", "_law_pages", "_law_keys_here", "_law_k"] (defScope s_law_neighbours) := ⟨rfl, rfl, rfl, by decide +kernel, rfl, by decide +kernel, by decide +kernel⟩
noncomputable abbrev s_law_all_right : Stmt := top 45
theorem sc_law_all_right : FnScope ["_law_tree", "_law_pages", "_law_keys_here", "_law_top", "_law_rows", "_law_kept", "_law_tells", "_law_k", "_law_beside"] ["_law_tree", "_law_pages"] (defScope s_law_all_right) := ⟨rfl, rfl, rfl, by decide +kernel, rfl, by decide +kernel, by decide +kernel⟩
noncomputable abbrev s_law : Stmt := top 46
theorem sc_law : FnScope ["_law_script", "_law_pen_here", "_law_keys_here", "_law_tree", "_law_more", "_law_pages", "_law_key"] ["_law_script"] (defScope s_law) := ⟨rfl, rfl, rfl, by decide +kernel, rfl, by decide +kernel, by decide +kernel⟩
structure Tx (K : PySem.W.Frag) (mg : Str → Option Value) : Prop where
  b_abs : mg "abs" = none
  b_enumerate : mg "enumerate" = none
  b_len : mg "len" = none
  b_list : mg "list" = none
  b_max : mg "max" = none
  b_min : mg "min" = none
  b_range : mg "range" = none
  b_set : mg "set" = none
  g_MOST_KEYS : ∃ tk, mg "MOST_KEYS" = some (.int 60 tk)
noncomputable def spPen (K : PySem.W.Frag) : Sp := fun vs H Q _ => ∃ (a : Addr) (k : Int) (ns : List Int), vs = [.ref a, .int k] ∧ SqL K H a (ns.map V.int) ∧ ns.length ≤ 63 ∧ 0 ≤ k ∧ k ≤ 63 ∧ ∀ p H', H p = none → Same H H' → PenAt H' p → Q (.ref p) H'
noncomputable def spTake : Sp := fun vs H Q _ => ∃ (p : Addr) (c : Int), vs = [.ref p, .int c] ∧ PenAt H p ∧ 0 < c ∧ c < 10 ^ 100 ∧ ∀ r H', 0 ≤ r → r < c → PenAt H' p → Same (rm p H) H' → Q (.int r) H'
noncomputable def spMid (n : Nat) : Sp := fun vs H Q _ => ∃ (lo hi : Int), vs = [.int lo, .int hi] ∧ lo ≤ hi ∧ hi - lo < n ∧ n ≤ 100 ∧ -1000 ≤ lo ∧ hi ≤ 1000 ∧ ∀ (r : Addr) (H' : Hp) (xs : List Int), H r = none → Same H H' → H' r = some (.lst (xs.map V.int)) → Mids lo hi xs → Q (.ref r) H'
noncomputable def spRanks : Sp := fun vs H Q _ => ∃ (p : Addr) (n : Int), vs = [.ref p, .int n] ∧ PenAt H p ∧ 0 ≤ n ∧ n ≤ 61 ∧ ∀ (r : Addr) (H' : Hp) (xs : List Int), H r = none → Same (rm p H) H' → PenAt H' p → H' r = some (.lst (xs.map V.int)) → Ranks n.toNat xs → Q (.ref r) H'
noncomputable def spKeys : Sp := fun vs H Q _ => ∃ (p : Addr) (n : Int), vs = [.ref p, .int n] ∧ PenAt H p ∧ 0 ≤ n ∧ n ≤ 60 ∧ ∀ (r : Addr) (H' : Hp) (xs : List Int), H r = none → Same (rm p H) H' → PenAt H' p → H' r = some (.lst (xs.map V.int)) → xs.Nodup → (xs.length : Int) ≤ n + 8 → xs.length ≤ 60 → (∀ x ∈ xs, -(10 ^ 61) < x ∧ x < 10 ^ 61) → Q (.ref r) H'
noncomputable def spPut (n : Nat) : Sp := fun vs H Q _ => ∃ (v : V) (k : Int) (t : Tr), vs = [v, .int k] ∧ Rep H v (Tr.d t) ∧ t.ht < n ∧ ∀ (r : V) (H' : Hp), Same H H' → Rep H' r (t.ins k).d → Q r H'
noncomputable def spPut0 : Sp := fun vs H Q _ => ∃ (v : V) (k : Int) (t : Tr), vs = [v, .int k] ∧ Rep H v (Tr.d t) ∧ t.ht < 80 ∧ t.size < 60 ∧ k ∉ t.keys ∧ ∀ (r : V) (H' : Hp), Same H H' → Rep H' r (t.ins k).d → Q r H'
noncomputable def spTof : Sp := fun vs H Q _ => ∃ (a : Addr) (xs : List Int), vs = [.ref a] ∧ H a = some (.lst (xs.map V.int)) ∧ xs.Nodup ∧ xs.length ≤ 60 ∧ ∀ (r : V) (H' : Hp), Same H H' → Rep H' r (xs.foldl (fun t x => t.ins x) Tr.nil).d → Q r H'
noncomputable def spKof (n : Nat) : Sp := fun vs H Q _ => ∃ (v : V) (t : Tr), vs = [v] ∧ Rep H v (Tr.d t) ∧ t.ht < n ∧ t.size ≤ 1000 ∧ ∀ r H', H r = none → Same H H' → H' r = some (.lst (t.keys.map V.int)) → Q (.ref r) H'
theorem at_mem {k : Int} : ∀ {t : Tr}, at_ k t ≠ .nil → k ∈ t.keys
  | .nil, h => absurd rfl h
  | .node l x r, h => by
    rw [at_] at h
    by_cases e : x = k
    · subst e; simp [Tr.keys]
    · rw [if_neg e] at h
      split at h
      · have := at_mem (t := l) h; simp [Tr.keys, this]
      · have := at_mem (t := r) h; simp [Tr.keys, this]
section
variable {P : Program} {w : World} {K : PySem.W.Frag} {mg : Str → Option Value} {base : Heap}
theorem ok_take {f : Addr} (F : Fd K mg "_law_take" s_law_take f) (T : Tx K mg) : Cal P w K mg base CX0 1 "_law_take" spTake := by
  refine F.cal sc_law_take (fun _ _ _ _ _ _ us hl => L3.bind2 (fun _ _ => rfl) us hl) (fun vs H Q E h => ?_) (fun cdv A outer s H vs Q E hr h => ?_)
  · obtain ⟨p, c, rfl, _⟩ := h; rfl
  · obtain ⟨p, c, rfl, ⟨m, n, hp⟩, hc, hc2, k⟩ := h
    refine ⟨_, (bcons (sif (tcmp (rEqq hr) (qix (xIx K) (qv 0) qint (fun _ _ => rfl)) qint (nomark _)) (bcons (sset (i := 2) sc_law_take.nd rfl (by first | exact Or.inl rfl | exact Or.inr rfl) (qop rMod (qix (xIx K) (qv 0) qint (fun _ _ => rfl)) (qv 1)))
        (bcons (sasg (qop rDivB (qix (xIx K) (qv 0) qint (fun _ _ => rfl)) (qv 1)) (gsub (qv 0) qint xSet))
        (bone (sret (qv 2))))) bnil)
      (bcons (sset (i := 3) sc_law_take.nd rfl (by first | exact Or.inl rfl | exact Or.inr rfl) (qop rMod (qop rAdd (qop rMul (qix (xIx K) (qv 0) qint (fun _ _ => rfl)) qint) qint) qint))
      (bcons (sasg (qv 3) (gsub (qv 0) qint xSet))
      (bone (sret (qop rMod (qop rDivB (qop rMod (qop rAdd (qop rMul (qv 3) (qop rAdd (qop rMod (qv 3) qint) qint)) (qop rDivB (qv 3) qint)) qint) qint) (qv 1))))))), ?_⟩
    refine ⟨_, rfl, p, _, 0, _, rfl, rfl, .inl (SqL.of hp), atI_nat (j := 0) rfl, _, rfl, ?_⟩
    refine ite2 (fun _ => ?_) (fun _ => ?_)
    · refine ⟨_, rfl, p, _, 1, _, rfl, rfl, .inl (SqL.of hp), atI_nat (j := 1) rfl, _, rfl, _, _, rfl, rfl, hc, ?_⟩
      refine ⟨_, rfl, p, _, 1, _, rfl, rfl, .inl (SqL.of hp), atI_nat (j := 1) rfl, _, rfl, _, _, rfl, rfl, ⟨hc, Int.lt_trans hc2 (by decide +kernel)⟩, _, rfl, p, _, 1, 1, rfl, rfl, hp, rfl, ?_⟩
      refine ⟨_, rfl, ?_⟩
      exact k (n % c) _ (Int.emod_nonneg _ (by (first | lia | omega))) (Int.emod_lt_of_pos _ hc) ⟨_, _, upd_same⟩ (same_upd rm_same rm_self)
    · refine ⟨_, rfl, p, _, 1, _, rfl, rfl, .inl (SqL.of hp), atI_nat (j := 1) rfl, _, _, rfl, rfl, cmR (by decide), _, _, rfl, rfl, (show (0 : Int) < 2147483629 by decide), ?_⟩
      generalize hone : (n * 69621 + 11) % 2147483629 = one
      have b1 : 0 ≤ one := by rw [← hone]; exact Int.emod_nonneg _ (by decide)
      have b2 : one < 2147483629 := by rw [← hone]; exact Int.emod_lt_of_pos _ (by decide)
      refine ⟨_, rfl, _, rfl, p, _, 1, 1, rfl, rfl, hp, rfl, ?_⟩
      refine ⟨_, rfl, _, rfl, _, _, rfl, rfl, (show (0 : Int) < 65519 by decide), _, _, rfl, rfl, cmL ⟨by (first | lia | omega), by (first | lia | omega)⟩, _, rfl, _, _, rfl, rfl, ⟨by decide, by decide⟩, _, _, rfl, rfl, (show (0 : Int) < 2147483587 by decide), _, _, rfl, rfl, ⟨by decide, by decide⟩, _, rfl, _, _, rfl, rfl, hc, ?_⟩
      exact k _ _ (Int.emod_nonneg _ (by (first | lia | omega))) (Int.emod_lt_of_pos _ hc) ⟨_, _, upd_same⟩ (same_upd rm_same rm_self)
theorem ok_pen {f : Addr} (F : Fd K mg "_law_pen" s_law_pen f) (T : Tx K mg) : Cal P w K mg base CX0 1 "_law_pen" (spPen K) := by
  refine F.cal sc_law_pen (fun _ _ _ _ _ _ us hl => L3.bind2 (fun _ _ => rfl) us hl) (fun vs H Q E h => ?_) (fun cdv A outer s H vs Q E hr h => ?_)
  · obtain ⟨a, k, ns, rfl, _⟩ := h; rfl
  · obtain ⟨a, k, ns, rfl, ha, hl, h0, h1, q⟩ := h
    refine split 2 (fun σ' H' => H' = H ∧ ∃ cell, σ' = [some (.ref a), some (.int k), some (.int cell)]) ?h2 ?h1
    case h2 =>
      refine ⟨_, (bcons (sif (tcmp rGe (qB fAbs rfl T.b_abs bt_abs (qcons (qv 2) qnil)) (qop rPow qint qint) (nomark _)) (bone (sret (qlst (qcons qint (qcons (qB fAbs rfl T.b_abs bt_abs (qcons (qv 2) qnil)) qnil))))) bnil)
      (bone (sret (qlst (qcons qint (qcons (qop rMod (qop rAdd (qop rAdd (qop rMul (qv 2) qint) (qop rMul qint (qv 1))) qint) qint) qnil)))))), ?_⟩
      rintro σ' H' ⟨rfl, cell, rfl⟩
      refine ⟨_, rfl, _, rfl, _, _, rfl, rfl, ⟨by decide, by decide, by decide⟩, _, _, rfl, rfl, _, rfl, ?_⟩
      refine ite2 (fun _ => ?_) (fun _ => ?_)
      · exact ⟨_, rfl, _, rfl, (show 2 ≤ sizeLine by decide), fun p H' hn s1 e1 _ => q p H' hn s1 ⟨_, _, e1⟩⟩
      · exact ⟨_, rfl, _, _, rfl, rfl, cmR (by decide), _, rfl, _, _, rfl, rfl, cmL (by decide), _, _, rfl, rfl, (show (0 : Int) < 2147483647 by decide), (show 2 ≤ sizeLine by decide), fun p H' hn s1 e1 _ => q p H' hn s1 ⟨_, _, e1⟩⟩
    case h1 =>
      intro u pu hu
      refine ⟨_, (bcons (sset (i := 2) sc_law_pen.nd rfl (by first | exact Or.inl rfl | exact Or.inr rfl) (qop rAdd (qop rMul qint (qv 1)) qint))
      (bcons (sif (tcmp rGt (qB (fLen K) rfl T.b_len bt_len (qcons (qv 0) qnil)) qint (nomark _)) (bone (sset (i := 2) sc_law_pen.nd rfl (by first | exact Or.inl rfl | exact Or.inr rfl) (qop rAdd (qix (xIx K) (qv 0) (qop rMod (qv 1) (qB (fLen K) rfl T.b_len bt_len (qcons (qv 0) qnil))) (fun _ _ => rfl)) (qop rMul qint (qop rDivB (qv 1) (qB (fLen K) rfl T.b_len bt_len (qcons (qv 0) qnil))))))) bnil)
      pu)), ?_⟩
      refine ⟨_, rfl, _, _, rfl, rfl, cmL (by decide), ?_⟩
      refine ⟨_, rfl, a, _, rfl, .inl ha, _, _, rfl, rfl, _, rfl, ?_⟩
      refine ite2 (fun hpos => ?_) (fun _ => hu _ _ ⟨rfl, _, rfl⟩)
      have hpos : 0 < (((ns.map V.int).length : Nat) : Int) := of_decide_eq_true hpos
      have hln : (ns.map V.int).length = ns.length := List.length_map _
      obtain ⟨x, hx, _⟩ := atI_ints (ns := ns) (i := k % ((ns.map V.int).length : Int)) (Int.emod_nonneg _ (by (first | lia | omega))) (by rw [← hln]; exact Int.emod_lt_of_pos _ hpos)
      refine ⟨_, rfl, _, rfl, _, rfl, a, _, rfl, .inl ha, _, _, rfl, rfl, hpos, a, _, _, .int x, rfl, rfl, .inl ha, hx, _, rfl, _, rfl, a, _, rfl, .inl ha, _, _, rfl, rfl, ⟨hpos, by rw [hln]; (first | lia | omega)⟩, _, _, rfl, rfl, cmL (by decide), ?_⟩
      exact hu _ _ ⟨rfl, _, rfl⟩
theorem ok_mid {f : Addr} (F : Fd K mg "_law_middles" s_law_middles f) (T : Tx K mg) : ∀ n, Cal P w K mg base CX0 n "_law_middles" (spMid n) := by
  intro n
  induction n with
  | zero => exact F.none (ps := ["_law_low", "_law_high"]) (fun _ _ _ _ _ _ us hl => L3.bind2 (fun _ _ => rfl) us hl) fun vs H Q E hh => by obtain ⟨lo, hi, _, h1, h2, _⟩ := hh; (first | lia | omega)
  | succ n C_law_middles =>
    refine F.cal sc_law_middles (fun _ _ _ _ _ _ us hl => L3.bind2 (fun _ _ => rfl) us hl) (fun vs H Q E h => ?_) (fun cdv A outer s H vs Q E hr h => ?_)
    · obtain ⟨lo, hi, rfl, _⟩ := h; rfl
    · obtain ⟨lo, hi, rfl, h1, h2, h3, h4, h5, q⟩ := h
      refine ⟨_, (bcons (sif (tcmp (rEqq hr) (qv 0) (qv 1) (nomark _)) (bone (sret (qlst qnil))) bnil)
      (bcons (sset (i := 2) sc_law_middles.nd rfl (by first | exact Or.inl rfl | exact Or.inr rfl) (qop rDivB (qop rAdd (qv 0) (qv 1)) qint))
      (bcons (sset (i := 3) sc_law_middles.nd rfl (by first | exact Or.inl rfl | exact Or.inr rfl) (qF C_law_middles (hr.mono (by (first | lia | omega))) pass0 rfl (qcons (qv 0) (qcons (qv 2) qnil))))
      (bcons (sset (i := 4) sc_law_middles.nd rfl (by first | exact Or.inl rfl | exact Or.inr rfl) (qF C_law_middles (hr.mono (by (first | lia | omega))) pass0 rfl (qcons (qop rAdd (qv 2) qint) (qcons (qv 1) qnil))))
      (bone (sret (qop rAdd (qop rAdd (qlst (qcons (qv 2) qnil)) (qv 3)) (qv 4)))))))), ?_⟩
      refine ⟨_, rfl, _, rfl, _, rfl, ?_⟩
      refine ite2 (fun he => ?_) (fun he => ?_)
      · have he : lo = hi := of_decide_eq_true he
        subst he
        exact ⟨(show 0 ≤ sizeLine by decide), fun p H' hn s1 e1 _ => q p H' [] hn s1 e1 (mids_nil lo)⟩
      · have he : ¬ lo = hi := fun z => he (decide_eq_true z)
        refine ⟨_, rfl, _, rfl, _, _, rfl, rfl, ⟨by decide, by decide⟩, ?_⟩
        dsimp only
        generalize hm : (lo + hi) / 2 = m
        have m1 : lo ≤ m := by (first | lia | omega)
        have m2 : m < hi := by (first | lia | omega)
        refine ⟨_, rfl, _, rfl, lo, m, rfl, m1, by (first | lia | omega), by (first | lia | omega), by (first | lia | omega), by (first | lia | omega), fun r1 H1 xs n1 s1 e1 M1 => ?_⟩
        refine ⟨_, rfl, _, rfl, m + 1, hi, rfl, by (first | lia | omega), by (first | lia | omega), by (first | lia | omega), by (first | lia | omega), by (first | lia | omega), fun r2 H2 ys n2 s2 e2 M2 => ?_⟩
        have l1 := M1.len
        have l2 := M2.len
        refine ⟨_, rfl, (show 1 ≤ sizeLine by decide), fun r3 H3 n3 s3 e3 _ => ?_⟩
        refine ⟨_, rfl, _, _, e3, s3 _ _ (s2 _ _ e1), sizeBig' (by simp; (first | lia | omega)), fun r4 H4 n4 s4 e4 _ => ?_⟩
        refine ⟨_, rfl, _, _, e4, s4 _ _ (s3 _ _ e2), sizeBig' (by simp; (first | lia | omega)), fun r5 H5 n5 s5 e5 _ => ?_⟩
        have s : Same H H4 := (s1.trans s2).trans (s3.trans s4)
        refine q r5 H5 ([m] ++ xs ++ ys) (s.free n5) (s.trans s5) ?_ (mids_node m1 m2 M1 M2)
        rw [e5]; simp
theorem ok_ranks {f : Addr} (F : Fd K mg "_law_ranks" s_law_ranks f) (T : Tx K mg) (C_law_take : Cal P w K mg base CX0 1 "_law_take" spTake) (C_law_middles : Cal P w K mg base CX0 70 "_law_middles" (spMid 70)) : Cal P w K mg base CX0 72 "_law_ranks" spRanks := by
  refine F.cal sc_law_ranks (fun _ _ _ _ _ _ us hl => L3.bind2 (fun _ _ => rfl) us hl) (fun vs H Q E h => ?_) (fun cdv A outer s H vs Q E hr h => ?_)
  · obtain ⟨p, n, rfl, _⟩ := h; rfl
  · obtain ⟨p, n, rfl, hp, h0, h1, q⟩ := h
    refine ⟨_, (bcons (sset (i := 2) sc_law_ranks.nd rfl (by first | exact Or.inl rfl | exact Or.inr rfl) (qF C_law_take (hr.mono (by (first | lia | omega))) pass0 rfl (qcons (qv 0) (qcons qint qnil))))
      (bcons (sif (tcmp (rEqq hr) (qv 2) qint (nomark _)) (bone (sret (qTy fListRng rfl T.b_list bt_list (qcons (qRange1 rfl T.b_range (qcons (qv 1) qnil)) qnil)))) bnil)
      (bcons (sif (tcmp (rEqq hr) (qv 2) qint (nomark _)) (bone (sret (qrev K (qTy fListRng rfl T.b_list bt_list (qcons (qRange1 rfl T.b_range (qcons (qv 1) qnil)) qnil)) (osome (qun rNeg qint))))) bnil)
      (bcons (sif (tcmp (rEqq hr) (qv 2) qint (nomark _)) (bone (sret (qcomp (sc := defScope s_law_ranks) (NX := ["_law_pen_here", "_law_many", "_law_shape", "_law_ranks_here", "_law_k"]) ["_law_k", "_law_many"] [none, some 1] rfl (irange1 rfl T.b_range (qcons (qv 1) qnil)) (fun _ _ _ => (gname (i := 0) (show (["_law_k", "_law_many"] : List Str).Nodup by decide +kernel) rfl (by first | exact Or.inl rfl | exact Or.inr rfl))) (fun _ _ _ => csnil) (fun _ _ _ => (qix (xIx K) (qlst (qcons (qop rDivB (qv 0) qint) (qcons (qop rSub (qop rSub (qv 1) qint) (qop rDivB (qv 0) qint)) qnil))) (qop rMod (qv 0) qint) (fun _ _ => rfl))) rfl rfl (by decide +kernel)))) bnil)
      (bcons (sif (tcmp (rEqq hr) (qv 2) qint (nomark _)) (bone (sret (qF C_law_middles (hr.mono (by (first | lia | omega))) pass0 rfl (qcons qint (qcons (qv 1) qnil))))) bnil)
      (bcons (sset (i := 3) sc_law_ranks.nd rfl (by first | exact Or.inl rfl | exact Or.inr rfl) (qlst qnil))
      (bcons (sfor PassesOwn.never rfl (irange1 rfl T.b_range (qcons (qv 1) qnil)) (gname (i := 4) sc_law_ranks.nd rfl (by first | exact Or.inl rfl | exact Or.inr rfl))
        (bone (sexpr (qBm K PySem.F.plainAttrs_list PySem.F.slot_list_insert PySem.F.type_list_insert mInsert (qv 3) (qcons (qF C_law_take (hr.mono (by (first | lia | omega))) pass0 rfl (qcons (qv 0) (qcons (qop rAdd (qv 4) qint) qnil))) (qcons (qv 4) qnil))))))
      (bone (sret (qv 3)))))))))), ?_⟩
    have en : ((n.toNat : Nat) : Int) = n := by (first | lia | omega)
    refine ⟨_, rfl, p, 8, rfl, hp, by decide, by decide, fun sh H1 sh0 sh1 p1 s1 => ?_⟩
    obtain ⟨m', n', hp1⟩ := id p1
    -- rising
    refine ⟨_, rfl, _, rfl, ?_⟩
    refine ite2 (fun _ => ?_) (fun _ => ?_)
    · refine ⟨_, rfl, n, rfl, fun r2 H2 n2 s2 e2 _ => ⟨r2, 0, n, rfl, e2, ⟨by decide, by decide, by (first | lia | omega), by (first | lia | omega), by (first | lia | omega)⟩, fun r3 H3 n3 s3 e3 _ => ?_⟩⟩
      rw [erv] at e3
      exact q r3 H3 _ (rm_free (s1.trans s2) n3 (s2 _ _ hp1)) (s1.trans (s2.trans s3)) (p1.mono (s2.trans s3)) e3 (ranks_up _)
    -- falling
    refine ⟨_, rfl, _, rfl, ?_⟩
    refine ite2 (fun _ => ?_) (fun _ => ?_)
    · refine ⟨_, rfl, n, rfl, fun r2 H2 n2 s2 e2 _ => ⟨r2, 0, n, rfl, e2, ⟨by decide, by decide, by (first | lia | omega), by (first | lia | omega), by (first | lia | omega)⟩, fun r3 H3 n3 s3 e3 _ => ?_⟩⟩
      refine ⟨_, rfl, _, rfl, rfl, r3, _, rfl, SqL.of e3, fun r4 H4 n4 s4 e4 _ => ?_⟩
      rw [erv, ← List.map_reverse] at e4
      exact q r4 H4 _ (rm_free (s1.trans (s2.trans s3)) n4 (s3 _ _ (s2 _ _ hp1))) (s1.trans (s2.trans (s3.trans s4))) (p1.mono (s2.trans (s3.trans s4))) e4 (ranks_down _)
    -- in and out
    refine ⟨_, rfl, _, rfl, ?_⟩
    refine ite2 (fun _ => ?_) (fun _ => ?_)
    · refine ⟨_, rfl, n, rfl, by (first | lia | omega), by (first | lia | omega), fun acc ha => ?_⟩
      refine comp_range (fun i ys σ H' => ∃ z, σ = [z, some (.int n)] ∧ Same H1 H' ∧ H' acc = some (.lst ys) ∧ ys = ((upN i).map (inOut n)).map V.int) ⟨none, rfl, same_new ha, upd_same, rfl⟩ ?_ ?_
      · rintro i ys σ H2 hi ⟨z, rfl, s2, e2, rfl⟩
        refine ⟨_, rfl, _, _, rfl, rfl, ⟨by decide, by decide⟩, _, rfl, _, _, rfl, rfl, _, rfl, _, _, rfl, rfl, ⟨by decide, by decide⟩, _, _, rfl, rfl, (show 2 ≤ sizeLine by decide), fun l H3 n3 s3 e3 _ => ?_⟩
        refine ⟨_, rfl, _, _, rfl, rfl, (show (0 : Int) < 2 by decide), l, _, _, .int (inOut n i), rfl, rfl, .inl (SqL.of e3), ?_, ?_⟩
        · have hz : (0 : Int) + (i : Int) = i := Int.zero_add _
          rw [hz]
          unfold inOut
          rcases Int.emod_two_eq (i : Int) with e | e <;> rw [e]
          · exact atI_nat (j := 0) rfl
          · exact atI_nat (j := 1) rfl
        · refine cpost (s3 _ _ e2) (sizeBig (by simp [upN]; (first | lia | omega))) hi ⟨_, rfl, same_upd (s2.trans s3) ha, upd_same, ?_⟩
          rw [upN_succ, List.map_append, List.map_append]; rfl
      · rintro ys σ H2 ⟨z, rfl, s2, e2, rfl⟩
        have := ranks_inOut n.toNat
        rw [en] at this
        exact q acc H2 _ (rm_free s1 ha hp1) (s1.trans s2) (p1.mono s2) e2 this
    -- by middles
    refine ⟨_, rfl, _, rfl, ?_⟩
    refine ite2 (fun _ => ?_) (fun _ => ?_)
    · refine ⟨_, rfl, 0, n, rfl, h0, by (first | lia | omega), by decide, by decide, by (first | lia | omega), fun r H2 xs n2 s2 e2 M => ?_⟩
      exact q r H2 xs (rm_free s1 n2 hp1) (s1.trans s2) (p1.mono s2) e2 (Mids.ranks (by rw [en]; exact M))
    -- drawn
    refine ⟨(show 0 ≤ sizeLine by decide), fun l H2 n2 s2 e2 _ => ?_⟩
    have hlp := p1.ne n2
    refine ⟨_, rfl, n, rfl, by (first | lia | omega), by (first | lia | omega), for_range (n := n.toNat) (fun i σ H' => ∃ z xs, σ = [some (.ref p), some (.int n), some (.int sh), some (.ref l), z] ∧ Same (rm p H) H' ∧ PenAt H' p ∧ H' l = some (.lst (xs.map V.int)) ∧ Ranks i xs)
      ⟨none, [], rfl, s1.trans s2, p1.mono s2, e2, ranks_zero⟩ ?_ ?_⟩
    · rintro i σ H3 hi ⟨z, xs, rfl, s3, p3, e3, R⟩
      have hl := R.len
      refine ⟨_, rfl, .inl ⟨rfl, _, SqL.of e3⟩, _, rfl, _, rfl, p, _, rfl, p3, by (first | lia | omega), by (first | lia | omega), fun r H4 r0 r1 p4 s4 => ?_⟩
      have e4 := rm_look s4 e3 hlp
      refine ⟨_, rfl, l, _, r, _, rfl, rfl, e4, r0, by rw [List.length_map]; (first | lia | omega), sizeBig (by rw [List.length_map]; (first | lia | omega)), ?_⟩
      obtain ⟨m4, n4, hp4⟩ := id p4
      refine ⟨_, xs.take r.toNat ++ (i : Int) :: xs.drop r.toNat, rfl, same_upd (rm_trans s3 s4) ((s1.trans (Same.refl _)).free n2), ⟨m4, n4, by rw [upd_ne hlp.symm]; exact hp4⟩, ?_, ranks_insert R _⟩
      rw [upd_same, List.map_append, List.map_cons, List.map_take, List.map_drop, Int.zero_add]
    · rintro σ H3 ⟨z, xs, rfl, s3, p3, e3, R⟩
      refine ⟨_, rfl, ?_⟩
      exact q l H3 xs (rm_free s1 n2 hp1) s3 p3 e3 R
theorem ok_keys {f : Addr} (F : Fd K mg "_law_keys" s_law_keys f) (T : Tx K mg) (C_law_take : Cal P w K mg base CX0 1 "_law_take" spTake) (C_law_ranks : Cal P w K mg base CX0 72 "_law_ranks" spRanks) : Cal P w K mg base CX0 74 "_law_keys" spKeys := by
  refine F.cal sc_law_keys (fun _ _ _ _ _ _ us hl => L3.bind2 (fun _ _ => rfl) us hl) (fun vs H Q E h => ?_) (fun cdv A outer s H vs Q E hr h => ?_)
  · obtain ⟨p, n, rfl, _⟩ := h; rfl
  · obtain ⟨p, n, rfl, hp, h0, h1, q⟩ := h
    refine ⟨_, (bcons (sset (i := 2) sc_law_keys.nd rfl (by first | exact Or.inl rfl | exact Or.inr rfl) (qF C_law_take (hr.mono (by (first | lia | omega))) pass0 rfl (qcons (qv 0) (qcons (qix (xIx K) (qlst (qcons qint (qcons qint (qcons qint (qcons (qop rAdd (qv 1) qint) qnil))))) (qF C_law_take (hr.mono (by (first | lia | omega))) pass0 rfl (qcons (qv 0) (qcons qint qnil))) (fun _ _ => rfl)) qnil))))
      (bcons (sset (i := 3) sc_law_keys.nd rfl (by first | exact Or.inl rfl | exact Or.inr rfl) (qix (xIx K) (qlst (qcons qint (qcons qint (qcons qint (qcons qint (qcons (qop rPow qint qint) qnil)))))) (qF C_law_take (hr.mono (by (first | lia | omega))) pass0 rfl (qcons (qv 0) (qcons qint qnil))) (fun _ _ => rfl)))
      (bcons (sset (i := 4) sc_law_keys.nd rfl (by first | exact Or.inl rfl | exact Or.inr rfl) (qix (xIx K) (qlst (qcons (qop rSub qint (qv 2)) (qcons (qop rSub (qF C_law_take (hr.mono (by (first | lia | omega))) pass0 rfl (qcons (qv 0) (qcons qint qnil))) qint) (qcons (qun rNeg (qop rPow qint qint)) (qcons qint qnil))))) (qF C_law_take (hr.mono (by (first | lia | omega))) pass0 rfl (qcons (qv 0) (qcons qint qnil))) (fun _ _ => rfl)))
      (bcons (sset (i := 5) sc_law_keys.nd rfl (by first | exact Or.inl rfl | exact Or.inr rfl) (qF C_law_take (hr.mono (by (first | lia | omega))) pass0 rfl (qcons (qv 0) (qcons qint qnil))))
      (bone (sret (qcomp (sc := defScope s_law_keys) (NX := ["_law_pen_here", "_law_most", "_law_many", "_law_gap", "_law_first", "_law_bent"]) ["_law_rank", "_law_first", "_law_gap", "_law_bent"] [none, some 4, some 3, some 5] rfl (iseq K (qF C_law_ranks (hr.mono (by (first | lia | omega))) pass0 rfl (qcons (qv 0) (qcons (qv 2) qnil)))) (fun _ _ _ => (gname (i := 0) (show (["_law_rank", "_law_first", "_law_gap", "_law_bent"] : List Str).Nodup by decide +kernel) rfl (by first | exact Or.inl rfl | exact Or.inr rfl))) (fun _ _ _ => csnil) (fun _ _ _ => (qop rAdd (qv 1) (qop rMul (qv 2) (qix (xIx K) (qlst (qcons (qv 0) (qcons (qop rMul (qv 0) (qv 0)) qnil))) (qv 3) (fun _ _ => rfl))))) rfl rfl (by decide +kernel)))))))), ?_⟩
    -- many
    refine ⟨_, rfl, _, rfl, (show 4 ≤ sizeLine by decide), fun l1 H1 n1 s1 e1 _ => ?_⟩
    refine ⟨_, rfl, p, 4, rfl, hp.mono s1, by decide, by decide, fun r2 H2 r20 r21 p2 s2 => ?_⟩
    obtain ⟨c, hc, hm⟩ := atI_ints (ns := [4, 9, 9, n + 1]) r20 r21
    have hc1 : 0 < c ∧ c ≤ 61 ∧ c ≤ n + 9 := by
      simp only [List.mem_cons, List.not_mem_nil, or_false] at hm
      (first | lia | omega)
    refine ⟨l1, _, r2, .int c, rfl, rfl, .inl (SqL.of (rm_look s2 e1 (hp.ne n1))), hc, ?_⟩
    refine ⟨p, c, rfl, p2, hc1.1, by (first | lia | omega), fun many H3 m0 m1 p3 s3 => ?_⟩
    have t3 : Same (rm p H) H3 := rm_trans (rm_trans (rm_same.trans s1) s2) s3
    -- gap
    refine ⟨_, _, rfl, rfl, ⟨by decide, by decide, by decide⟩, (show 5 ≤ sizeLine by decide), fun l4 H4 n4 s4 e4 _ => ?_⟩
    refine ⟨_, rfl, p, 5, rfl, p3.mono s4, by decide, by decide, fun r5 H5 r50 r51 p5 s5 => ?_⟩
    obtain ⟨gap, hg, hgm⟩ := atI_ints (ns := [1, 1, 2, 7, 10 ^ 56]) r50 r51
    have hg1 : 0 < gap ∧ gap ≤ 10 ^ 56 := by
      simp only [List.mem_cons, List.not_mem_nil, or_false] at hgm
      (first | lia | omega)
    refine ⟨l4, _, r5, .int gap, rfl, rfl, .inl (SqL.of (rm_look s5 e4 (p3.ne n4))), hg, ?_⟩
    have t5 : Same (rm p H) H5 := rm_trans (t3.trans s4) s5
    -- first
    refine ⟨_, rfl, _, _, rfl, rfl, _, rfl, p, 41, rfl, p5, by decide, by decide, fun r6 H6 r60 r61 p6 s6 => ?_⟩
    refine ⟨_, _, rfl, rfl, _, _, rfl, rfl, ⟨by decide, by decide, by decide⟩, _, rfl, (show 4 ≤ sizeLine by decide), fun l7 H7 n7 s7 e7 _ => ?_⟩
    refine ⟨_, rfl, p, 4, rfl, p6.mono s7, by decide, by decide, fun r8 H8 r80 r81 p8 s8 => ?_⟩
    obtain ⟨first, hf, hfm⟩ := atI_ints (ns := [0 - many, r6 - 20, -(10 ^ 58), 0]) r80 r81
    have hf1 : -(10 ^ 59) ≤ first ∧ first ≤ 10 ^ 59 := by
      simp only [List.mem_cons, List.not_mem_nil, or_false] at hfm
      (first | lia | omega)
    refine ⟨l7, _, r8, .int first, rfl, rfl, .inl (SqL.of (rm_look s8 e7 (p6.ne n7))), hf, ?_⟩
    have t8 : Same (rm p H) H8 := rm_trans ((rm_trans t5 s6).trans s7) s8
    -- bent
    refine ⟨_, rfl, p, 2, rfl, p8, by decide, by decide, fun bent H9 b0 b1 p9 s9 => ?_⟩
    -- the keys
    refine ⟨_, rfl, _, rfl, p, many, rfl, p9, m0, by (first | lia | omega), fun r10 H10 xs n10 s10 p10 e10 R => ?_⟩
    have t10 : Same (rm p H) H10 := rm_trans (rm_trans t8 s9) s10
    refine ⟨r10, rfl, .inl ⟨⟨_, SqL.of e10⟩, fun acc ha => ?_⟩⟩
    have hlen := R.len
    refine comp_list (xs := xs.map V.int) (fun i ys σ H' => ∃ z, σ = [z, some (.int first), some (.int gap), some (.int bent)] ∧ Same H10 H' ∧ H' acc = some (.lst ys) ∧ ys = ((xs.take i).map (keyOf first gap bent)).map V.int) ⟨none, rfl, same_new ha, upd_same, rfl⟩ (fun i ys σ H' hh => by obtain ⟨_, _, s', _⟩ := hh; exact SqL.of (s' _ _ e10)) ?_ ?_
    · rintro i ys x σ H11 hx hi ⟨z, rfl, s11, e11, rfl⟩
      rw [List.getElem?_map] at hx
      obtain ⟨r, hr1, rfl⟩ := Option.map_eq_some_iff.mp hx
      have hrm := List.mem_of_getElem? hr1
      have hrb := R.bd r hrm
      have sq : 0 ≤ r * r ∧ r * r ≤ 4000 := by
        have a1 : 0 ≤ r * r := Int.mul_nonneg hrb.1 hrb.1
        have a2 : r * r ≤ 61 * r := Int.mul_le_mul_of_nonneg_right (by (first | lia | omega)) hrb.1
        (first | lia | omega)
      refine ⟨_, rfl, _, rfl, _, rfl, _, rfl, _, rfl, _, _, rfl, rfl, cmL ⟨by (first | lia | omega), by (first | lia | omega)⟩, (show 2 ≤ sizeLine by decide), fun l12 H12 n12 s12 e12 _ => ?_⟩
      refine ⟨_, rfl, l12, _, bent, .int (if bent = 0 then r else r * r), rfl, rfl, .inl (SqL.of e12), ?_, _, _, rfl, rfl, cmR ?_, ?_⟩
      · have : bent = 0 ∨ bent = 1 := by (first | lia | omega)
        rcases this with rfl | rfl
        · exact atI_nat (j := 0) rfl
        · exact atI_nat (j := 1) rfl
      · split <;> (first | lia | omega)
      · have hil : i < xs.length := by simpa using hi
        refine cpost (s12 _ _ e11) (sizeBig (by simp; (first | lia | omega))) hi ?_
        refine ⟨_, rfl, same_upd (s11.trans s12) ha, upd_same, ?_⟩
        rw [List.take_add_one, hr1, List.map_append, List.map_append]; rfl
    · rintro ys σ H11 ⟨z, rfl, s11, e11, rfl⟩
      obtain ⟨m', n', hp10⟩ := id p10
      rw [List.length_map, List.take_length] at e11
      refine q acc H11 _ (rm_free t10 ha hp10) (t10.trans s11) (p10.mono s11) e11 (keys_nodup R hg1.1) (by rw [List.length_map]; (first | lia | omega)) (by rw [List.length_map]; (first | lia | omega)) fun x hx => ?_
      obtain ⟨r, hr1, rfl⟩ := List.mem_map.mp hx
      have := R.bd r hr1
      exact keyOf_bound hf1.1 hf1.2 hg1.1 hg1.2 this.1 (by (first | lia | omega))
theorem ok_wkey {f : Addr} (F : Fd K mg "with_key" s_with_key f) (T : Tx K mg) : ∀ n, Cal P w K mg base CX0 n "with_key" (spPut n) := by
  intro n
  induction n with
  | zero => exact F.none (ps := ["tree", "key"]) (fun _ _ _ _ _ _ us hl => L3.bind2 (fun _ _ => rfl) us hl) fun vs H Q E hh => by obtain ⟨v, k, t, _, _, h2, _⟩ := hh; (first | lia | omega)
  | succ n C_with_key =>
    refine F.cal sc_with_key (fun _ _ _ _ _ _ us hl => L3.bind2 (fun _ _ => rfl) us hl) (fun vs H Q E h => ?_) (fun cdv A outer s H vs Q E hr h => ?_)
    · obtain ⟨v, k, t, rfl, _⟩ := h; rfl
    · obtain ⟨v, k, t, rfl, hv, ht, q⟩ := h
      refine ⟨_, (bcons (sif (tcmp rIs (qv 0) qnon (nomark _)) (bone (sret (qtup (qcons qnon (qcons (qv 1) (qcons qnon qnil)))))) bnil)
      (bcons (sif (tcmp rLt (qv 1) (qix (xIx K) (qv 0) qint (fun _ _ => rfl)) (nomark _)) (bone (sret (qtup (qcons (qF C_with_key (hr.mono (by (first | lia | omega))) pass0 rfl (qcons (qix (xIx K) (qv 0) qint (fun _ _ => rfl)) (qcons (qv 1) qnil))) (qcons (qix (xIx K) (qv 0) qint (fun _ _ => rfl)) (qcons (qix (xIx K) (qv 0) qint (fun _ _ => rfl)) qnil)))))) bnil)
      (bone (sret (qtup (qcons (qix (xIx K) (qv 0) qint (fun _ _ => rfl)) (qcons (qix (xIx K) (qv 0) qint (fun _ _ => rfl)) (qcons (qF C_with_key (hr.mono (by (first | lia | omega))) pass0 rfl (qcons (qix (xIx K) (qv 0) qint (fun _ _ => rfl)) (qcons (qv 1) qnil))) qnil)))))))), ?_⟩
      cases t with
      | nil =>
        cases rep_nil hv
        refine ⟨_, rfl, rfl, _, rfl, ?_⟩
        exact ⟨_, rfl, (show 3 ≤ sizeLine by decide), fun a H1 n1 s1 e1 _ => q _ _ s1 (rep_mk e1 .non .non)⟩
      | node l x r =>
        obtain ⟨a, vl, vr, rfl, ea, hl, hr'⟩ := rep_node hv
        refine ⟨_, rfl, rfl, _, rfl, ?_⟩
        refine ⟨_, rfl, _, rfl, a, _, 1, _, rfl, rfl, .inr (SqT.of ea), atI_nat (j := 1) rfl, _, _, rfl, rfl, _, rfl, ?_⟩
        simp only [Tr.ht] at ht
        refine ite2 (fun hlt => ?_) (fun hlt => ?_)
        · have hlt : k < x := of_decide_eq_true hlt
          refine ⟨_, rfl, a, _, 0, _, rfl, rfl, .inr (SqT.of ea), atI_nat (j := 0) rfl, _, rfl, vl, k, l, rfl, hl, by (first | lia | omega), fun r1 H1 s1 g1 => ?_⟩
          have ea1 := s1 _ _ ea
          refine ⟨_, rfl, a, _, 1, _, rfl, rfl, .inr (SqT.of ea1), atI_nat (j := 1) rfl, _, rfl, a, _, 2, _, rfl, rfl, .inr (SqT.of ea1), atI_nat (j := 2) rfl, (show 3 ≤ sizeLine by decide), fun a2 H2 n2 s2 e2 _ => ?_⟩
          refine q _ _ (s1.trans s2) ?_
          rw [Tr.ins, if_pos hlt]
          exact rep_mk e2 (g1.mono s2) (hr'.mono (s1.trans s2))
        · have hlt : ¬ k < x := fun z => hlt (decide_eq_true z)
          refine ⟨_, rfl, a, _, 0, _, rfl, rfl, .inr (SqT.of ea), atI_nat (j := 0) rfl, _, rfl, a, _, 1, _, rfl, rfl, .inr (SqT.of ea), atI_nat (j := 1) rfl, _, rfl, a, _, 2, _, rfl, rfl, .inr (SqT.of ea), atI_nat (j := 2) rfl, _, rfl, vr, k, r, rfl, hr', by (first | lia | omega), fun r1 H1 s1 g1 => ?_⟩
          refine ⟨(show 3 ≤ sizeLine by decide), fun a2 H2 n2 s2 e2 _ => ?_⟩
          refine q _ _ (s1.trans s2) ?_
          rw [Tr.ins, if_neg hlt]
          exact rep_mk e2 (hl.mono (s1.trans s2)) (g1.mono s2)
theorem ok_tof {f : Addr} (F : Fd K mg "tree_of" s_tree_of f) (T : Tx K mg) (C_with_key : Cal P w K mg base CX0 80 "with_key" (spPut 80)) : Cal P w K mg base CX0 81 "tree_of" spTof := by
  refine F.cal sc_tree_of (fun _ _ _ _ _ _ us hl => L3.bind1 (fun _ => rfl) us hl) (fun vs H Q E h => ?_) (fun cdv A outer s H vs Q E hr h => ?_)
  · obtain ⟨a, xs, rfl, _⟩ := h; rfl
  · obtain ⟨a, xs, rfl, ea, hn, hl, q⟩ := h
    refine ⟨_, (bcons (sif (tcmp rLt (qLenSetX K rfl T.b_len rfl T.b_set (qcons (qv 0) qnil)) (qB (fLen K) rfl T.b_len bt_len (qcons (qv 0) qnil)) (nomark _)) (bone snever) bnil)
      (bcons (sset (i := 1) sc_tree_of.nd rfl (by first | exact Or.inl rfl | exact Or.inr rfl) qnon)
      (bcons (sfor PassesOwn.never rfl (iseq K (qv 0)) (gname (i := 2) sc_tree_of.nd rfl (by first | exact Or.inl rfl | exact Or.inr rfl))
        (bone (sset (i := 1) sc_tree_of.nd rfl (by first | exact Or.inl rfl | exact Or.inr rfl) (qF C_with_key (hr.mono (by (first | lia | omega))) pass0 rfl (qcons (qv 1) (qcons (qv 2) qnil))))))
      (bone (sret (qv 1)))))), ?_⟩
    refine ⟨_, rfl, a, xs, rfl, SqL.of ea, by (first | lia | omega), fun m _ hm => ?_⟩
    have hm := hm.mpr hn
    subst hm
    refine ⟨_, rfl, a, _, rfl, .inl (SqL.of ea), _, _, rfl, rfl, _, rfl, ?_⟩
    rw [List.length_map, decide_eq_false (show ¬ ((xs.length : Nat) : Int) < ((xs.length : Nat) : Int) by (first | lia | omega))]
    refine iteF ?_
    refine ⟨_, rfl, a, rfl, .inl ⟨⟨_, SqL.of ea⟩, for_list (xs := xs.map V.int) (fun i σ H' => ∃ v z, σ = [some (.ref a), some v, z] ∧ Same H H' ∧ Rep H' v ((xs.take i).foldl (fun t x => t.ins x) Tr.nil).d)
      ⟨.non, none, rfl, Same.refl _, .non⟩ (fun i σ H' _ hh => by obtain ⟨_, _, _, s', _⟩ := hh; exact SqL.of (s' _ _ ea)) ?_ ?_⟩⟩
    · rintro i y σ H1 hy ⟨v, z, rfl, s1, g1⟩
      rw [List.getElem?_map] at hy
      obtain ⟨k, hk, rfl⟩ := Option.map_eq_some_iff.mp hy
      have hi := (List.getElem?_eq_some_iff.mp hk).1
      have hsz := Tr.size_foldl (xs.take i) Tr.nil
      rw [List.length_take] at hsz
      have hht := Tr.ht_size ((xs.take i).foldl (fun t x => t.ins x) Tr.nil)
      have h0 : Tr.nil.size = 0 := rfl
      refine ⟨_, rfl, _, rfl, v, k, _, rfl, g1, by (first | lia | omega), fun r H2 s2 g2 => ?_⟩
      refine ⟨r, _, rfl, s1.trans s2, ?_⟩
      rw [List.take_add_one, hk, List.foldl_append]
      exact g2
    · rintro σ H1 ⟨v, z, rfl, s1, g1⟩
      rw [List.length_map, List.take_length] at g1
      exact ⟨_, rfl, q v H1 s1 g1⟩
theorem ok_kof {f : Addr} (F : Fd K mg "keys_of" s_keys_of f) (T : Tx K mg) : ∀ n, Cal P w K mg base CX0 n "keys_of" (spKof n) := by
  intro n
  induction n with
  | zero => exact (F.none (ps := ["tree"]) (fun _ _ _ _ _ _ us hl => L3.bind1 (fun _ => rfl) us hl) fun vs H Q E hh => by obtain ⟨v, t, _, _, h2, _⟩ := hh; (first | lia | omega))
  | succ n C_keys_of =>
    refine F.cal sc_keys_of (fun _ _ _ _ _ _ us hl => L3.bind1 (fun _ => rfl) us hl) (fun vs H Q E h => ?_) (fun cdv A outer s H vs Q E hr h => ?_)
    · obtain ⟨v, t, rfl, _⟩ := h; rfl
    · obtain ⟨v, t, rfl, hv, ht, hz, q⟩ := h
      refine ⟨_, (bcons (sif (tcmp rIs (qv 0) qnon (nomark _)) (bone (sret (qlst qnil))) bnil)
      (bone (sret (qop rAdd (qop rAdd (qF C_keys_of (hr.mono (by (first | lia | omega))) pass0 rfl (qcons (qix (xIx K) (qv 0) qint (fun _ _ => rfl)) qnil)) (qlst (qcons (qix (xIx K) (qv 0) qint (fun _ _ => rfl)) qnil))) (qF C_keys_of (hr.mono (by (first | lia | omega))) pass0 rfl (qcons (qix (xIx K) (qv 0) qint (fun _ _ => rfl)) qnil)))))), ?_⟩
      cases t with
      | nil =>
        cases rep_nil hv
        exact ⟨_, rfl, rfl, _, rfl, (show 0 ≤ sizeLine by decide), fun r H1 n1 s1 e1 _ => q r H1 n1 s1 e1⟩
      | node l x r =>
        obtain ⟨a, vl, vr, rfl, ea, hl, hr'⟩ := rep_node hv
        simp only [Tr.ht] at ht
        simp only [Tr.size] at hz
        refine ⟨_, rfl, rfl, _, rfl, ?_⟩
        refine ⟨_, rfl, a, _, 0, _, rfl, rfl, .inr (SqT.of ea), atI_nat (j := 0) rfl, vl, l, rfl, hl, by (first | lia | omega), by (first | lia | omega), fun r1 H1 n1 s1 e1 => ?_⟩
        refine ⟨_, rfl, a, _, 1, _, rfl, rfl, .inr (SqT.of (s1 _ _ ea)), atI_nat (j := 1) rfl, (show 1 ≤ sizeLine by decide), fun r2 H2 n2 s2 e2 _ => ?_⟩
        have kl := Tr.keys_length l
        have kr := Tr.keys_length r
        refine ⟨_, _, s2 _ _ e1, e2, sizeBig' (by simp; (first | lia | omega)), fun r3 H3 n3 s3 e3 _ => ?_⟩
        have s13 := (s1.trans s2).trans s3
        refine ⟨_, rfl, a, _, 2, _, rfl, rfl, .inr (SqT.of (s13 _ _ ea)), atI_nat (j := 2) rfl, vr, r, rfl, hr'.mono s13, by (first | lia | omega), by (first | lia | omega), fun r4 H4 n4 s4 e4 => ?_⟩
        refine ⟨_, _, s4 _ _ e3, e4, sizeBig' (by simp; (first | lia | omega)), fun r5 H5 n5 s5 e5 _ => ?_⟩
        refine q r5 H5 ((s13.trans s4).free n5) ((s13.trans s4).trans s5) ?_
        rw [e5]; simp [Tr.keys]
end
end K36
namespace L3
open PySem L2
theorem join {G : Prop} {N : L2.St → Hp → Prop} (M : L2.St → Hp → Prop) (h2 : (∀ σ H, M σ H → N σ H) → G) (h1 : ∀ σ H, M σ H → N σ H) : G := h2 h1
theorem valV_none' : ∀ {kvs : List (Key × V)} {k : Key}, k ∉ kvs.map (·.1) → valV kvs k = none
  | [], _, _ => rfl
  | (k', x) :: r, k, h => by
    simp only [List.map_cons, List.mem_cons, not_or] at h
    rw [valV_neg (fun z => h.1 z.symm)]
    exact valV_none' h.2
theorem valV_some' : ∀ {kvs : List (Key × V)} {k : Key} {x : V}, (kvs.map (·.1)).Nodup → (k, x) ∈ kvs → valV kvs k = some x
  | [], _, _, _, h => by simp at h
  | (k', x') :: r, k, x, hn, h => by
    rw [List.map_cons, List.nodup_cons] at hn
    rcases List.mem_cons.mp h with e | h
    · cases e; exact valV_pos rfl
    · have hne : ¬ k' = k := fun z => hn.1 (by rw [z]; exact List.mem_map.mpr ⟨_, h, rfl⟩)
      rw [valV_neg hne]
      exact valV_some' hn.2 h
theorem merge_app : ∀ (more kvs : List (Key × V)), ((kvs ++ more).map (·.1)).Nodup → mergeK kvs more = kvs ++ more
  | [], kvs, _ => by simp [mergeK]
  | (k, x) :: r, kvs, h => by
    have hk : k ∉ kvs.map (·.1) := by
      rw [List.map_append, List.nodup_append] at h
      intro hm
      exact h.2.2 k hm k (by simp) rfl
    have h' : ((kvs ++ [(k, x)] ++ r).map (·.1)).Nodup := by simpa using h
    show mergeK (putK kvs k x) r = _
    rw [putK_new _ (valV_none' hk), merge_app r _ h']
    simp
noncomputable def upW (w : List Int) : Option Int := if 1 < w.length then w[w.length - 2]? else none
noncomputable def upsL : Tr → Option Int → List (Key × V)
  | .nil, _ => []
  | .node l x r, u => ((Sum.inl x : Key), vO u) :: (upsL l (some x) ++ upsL r (some x))
theorem upsL_perm : ∀ (t : Tr) (u : Option Int), ((upsL t u).map (·.1)).Perm (t.keys.map (fun y => (Sum.inl y : Key)))
  | .nil, _ => List.Perm.refl _
  | .node l x r, u => by
    have h1 := upsL_perm l (some x)
    have h2 := upsL_perm r (some x)
    rw [upsL, Tr.keys, List.map_cons, List.map_append, List.map_append, List.map_append, List.append_assoc]
    refine List.Perm.trans ((h1.append h2).cons _) ?_
    exact List.perm_middle.symm
theorem upsL_nodup {t : Tr} (h : t.keys.Nodup) (u : Option Int) : ((upsL t u).map (·.1)).Nodup := by
  refine (upsL_perm t u).nodup_iff.mpr ?_
  rw [List.Nodup, List.pairwise_map]
  exact h.imp (fun h z => h (Sum.inl.inj z))
noncomputable def upK (k : Int) : Tr → Option Int → Option Int
  | .nil, u => u
  | .node l x r, u => if x = k then u else if k < x then upK k l (some x) else upK k r (some x)
theorem key_side {l r : Tr} {x k : Int} {lo hi : Option Int} (h : (Tr.node l x r).ord lo hi) (hk : k ∈ (Tr.node l x r).keys) (hx : ¬ x = k) : (k < x → k ∈ l.keys) ∧ (¬ k < x → k ∈ r.keys) := by
  simp only [Tr.keys, List.mem_append, List.mem_singleton] at hk
  constructor
  · intro hlt
    rcases hk with (hk | hk) | hk
    · exact hk
    · exact absurd hk.symm hx
    · have := ord_r h hk; (first | lia | omega)
  · intro hlt
    rcases hk with (hk | hk) | hk
    · have := ord_l h hk; (first | lia | omega)
    · exact absurd hk.symm hx
    · exact hk
theorem upsL_mem (k : Int) : ∀ (t : Tr) (u : Option Int) (lo hi : Option Int), t.ord lo hi → k ∈ t.keys → ((Sum.inl k : Key), vO (upK k t u)) ∈ upsL t u
  | .nil, _, _, _, _, h => by simp [Tr.keys] at h
  | .node l x r, u, lo, hi, h, hk => by
    rw [upK, upsL]
    by_cases hx : x = k
    · rw [if_pos hx, hx]; simp
    · rw [if_neg hx]
      obtain ⟨g1, g2⟩ := key_side h hk hx
      by_cases hlt : k < x
      · rw [if_pos hlt]
        exact List.mem_cons_of_mem _ (List.mem_append_left _ (upsL_mem k l _ _ _ h.2.2.1 (g1 hlt)))
      · rw [if_neg hlt]
        exact List.mem_cons_of_mem _ (List.mem_append_right _ (upsL_mem k r _ _ _ h.2.2.2 (g2 hlt)))
theorem upK_way (k : Int) : ∀ (t : Tr) (u : Option Int) (lo hi : Option Int), t.ord lo hi → k ∈ t.keys → upK k t u = if 1 < (way k t).length then (way k t)[(way k t).length - 2]? else u
  | .nil, _, _, _, _, h => by simp [Tr.keys] at h
  | .node l x r, u, lo, hi, h, hk => by
    rw [upK, way]
    by_cases hx : x = k
    · rw [if_pos hx, if_pos hx]; simp
    · rw [if_neg hx, if_neg hx]
      obtain ⟨g1, g2⟩ := key_side h hk hx
      have step : ∀ (s : Tr), upK k s (some x) = (if 1 < (way k s).length then (way k s)[(way k s).length - 2]? else some x) → 0 < (way k s).length → upK k s (some x) = if 1 < (x :: way k s).length then (x :: way k s)[(x :: way k s).length - 2]? else u := by
        intro s e hp
        have hp2 : 1 < (way k s).length + 1 := by (first | lia | omega)
        rw [List.length_cons, if_pos hp2, e]
        by_cases h1 : 1 < (way k s).length
        · rw [if_pos h1]
          have e1 : (way k s).length + 1 - 2 = ((way k s).length - 2) + 1 := by (first | lia | omega)
          rw [e1, List.getElem?_cons_succ]
        · rw [if_neg h1]
          have e1 : (way k s).length + 1 - 2 = 0 := by (first | lia | omega)
          rw [e1]; rfl
      have pos : ∀ (s : Tr) (a b : Option Int), s.ord a b → k ∈ s.keys → 0 < (way k s).length := fun s a b ho hm => by
        cases s with
        | nil => simp [Tr.keys] at hm
        | node l' x' r' => rw [way]; split <;> simp
      by_cases hlt : k < x
      · rw [if_pos hlt, if_pos hlt]
        exact step l (upK_way k l _ _ _ h.2.2.1 (g1 hlt)) (pos l _ _ h.2.2.1 (g1 hlt))
      · rw [if_neg hlt, if_neg hlt]
        exact step r (upK_way k r _ _ _ h.2.2.2 (g2 hlt)) (pos r _ _ h.2.2.2 (g2 hlt))
theorem upsL_val {t : Tr} {k : Int} (h : t.ord none none) (hk : k ∈ t.keys) : valV (upsL t none) (Sum.inl k : Key) = some (vO (upW (way k t))) := by
  have hn : t.keys.Nodup := (ord_rise t _ _ h).imp (fun h => by (first | lia | omega))
  have h1 := valV_some' (upsL_nodup hn none) (upsL_mem k t none _ _ h hk)
  rw [h1, upK_way k t none _ _ h hk]; rfl
end L3
namespace K36
open PySem L2 L3
noncomputable def spUps (n : Nat) : Sp := fun vs H Q _ => ∃ (v : V) (t : Tr) (u : Option Int), vs = [v, vO u] ∧ Rep H v (Tr.d t) ∧ t.ht < n ∧ t.size ≤ 1000 ∧ t.keys.Nodup ∧ ∀ r H', H r = none → Same H H' → H' r = some (.dK (upsL t u)) → Q (.ref r) H'
noncomputable def spShuf : Sp := fun vs H Q _ => ∃ (p a : Addr) (xs : List V), vs = [.ref p, .ref a] ∧ PenAt H p ∧ a ≠ p ∧ H a = some (.lst xs) ∧ xs.length ≤ 100 ∧ ∀ (r : Addr) (H' : Hp) (ys : List V), H r = none → Same (rm p H) H' → PenAt H' p → H' r = some (.lst ys) → ys.Perm xs → Q (.ref r) H'
theorem upsL_len (t : Tr) (u : Option Int) : (upsL t u).length = t.size := by
  have := (upsL_perm t u).length_eq
  rwa [List.length_map, List.length_map, Tr.keys_length] at this
theorem perm_ins {α : Type} (xs : List α) (y : α) (i : Nat) : (xs.take i ++ y :: xs.drop i).Perm (xs ++ [y]) := by
  refine List.perm_middle.trans ?_
  rw [List.take_append_drop]
  exact (List.perm_append_singleton y xs).symm
section
variable {P : Program} {w : World} {K : PySem.W.Frag} {mg : Str → Option Value} {base : Heap}
theorem ok_ups {f : Addr} (F : Fd K mg "_law_ups" s_law_ups f) (T : Tx K mg) : ∀ n, Cal P w K mg base CX0 n "_law_ups" (spUps n) := by
  intro n
  induction n with
  | zero => exact F.none (ps := ["_law_tree", "_law_up"]) (fun _ _ _ _ _ _ us hl => L3.bind2 (fun _ _ => rfl) us hl) fun vs H Q E hh => by obtain ⟨v, t, u, _, _, h2, _⟩ := hh; (first | lia | omega)
  | succ n C_law_ups =>
    refine F.cal sc_law_ups (fun _ _ _ _ _ _ us hl => L3.bind2 (fun _ _ => rfl) us hl) (fun vs H Q E h => ?_) (fun cdv A outer s H vs Q E hr h => ?_)
    · obtain ⟨v, t, u, rfl, _⟩ := h; rfl
    · obtain ⟨v, t, u, rfl, hv, ht, hz, hn, q⟩ := h
      refine ⟨_, (bcons (sif (tcmp rIs (qv 0) qnon (nomark _)) (bone (sret qdict)) bnil)
      (bcons (sset (i := 2) sc_law_ups.nd rfl (by first | exact Or.inl rfl | exact Or.inr rfl) (qdisp (pcons (qix (xIx K) (qv 0) qint (fun _ _ => rfl)) (qv 1) pnil)))
      (bcons (sexpr (qBm K PySem.F.plainAttrs_dict PySem.F.slot_dict_update PySem.F.type_dict_update mUpdate (qv 2) (qcons (qF C_law_ups (hr.mono (by (first | lia | omega))) pass0 rfl (qcons (qix (xIx K) (qv 0) qint (fun _ _ => rfl)) (qcons (qix (xIx K) (qv 0) qint (fun _ _ => rfl)) qnil))) qnil)))
      (bcons (sexpr (qBm K PySem.F.plainAttrs_dict PySem.F.slot_dict_update PySem.F.type_dict_update mUpdate (qv 2) (qcons (qF C_law_ups (hr.mono (by (first | lia | omega))) pass0 rfl (qcons (qix (xIx K) (qv 0) qint (fun _ _ => rfl)) (qcons (qix (xIx K) (qv 0) qint (fun _ _ => rfl)) qnil))) qnil)))
      (bone (sret (qv 2))))))), ?_⟩
      cases t with
      | nil =>
        cases rep_nil hv
        refine ⟨_, rfl, rfl, _, rfl, ?_⟩
        exact fun r H1 n1 s1 e1 _ => q r H1 n1 s1 e1
      | node l x r =>
        obtain ⟨a, vl, vr, rfl, ea, hl, hr'⟩ := rep_node hv
        simp only [Tr.ht] at ht
        simp only [Tr.size] at hz
        have hnl : l.keys.Nodup := by
          rw [Tr.keys, List.append_assoc, List.nodup_append] at hn; exact hn.1
        have hnr : r.keys.Nodup := by
          rw [Tr.keys, List.nodup_append] at hn; exact hn.2.1
        refine ⟨_, rfl, rfl, _, rfl, ?_⟩
        intro d nd
        have sd : Same H (upd H d (.dK [])) := same_new nd
        refine ⟨_, rfl, a, _, 1, _, rfl, rfl, .inr (SqT.of (sd _ _ ea)), atI_nat (j := 1) rfl, _, rfl, upd_same, [((Sum.inl x : Key), vO u)], rfl, by simp, ?_⟩
        have s1 : Same H (upd (upd H d (.dK [])) d (.dK (mergeK [] [((Sum.inl x : Key), vO u)]))) := same_upd sd nd
        have e1 : upd (upd H d (.dK [])) d (.dK (mergeK [] [((Sum.inl x : Key), vO u)])) d = some (.dK [((Sum.inl x : Key), vO u)]) := upd_same
        generalize upd (upd H d (.dK [])) d (.dK (mergeK [] [((Sum.inl x : Key), vO u)])) = H1 at *
        have hkn := upsL_nodup hn u
        rw [upsL] at hkn
        have L1 := upsL_len l (some x)
        have L2 := upsL_len r (some x)
        refine ⟨_, rfl, .inr (.inr (.inl ⟨rfl, .inl ⟨_, e1⟩⟩)), _, rfl, a, _, 0, _, rfl, rfl, .inr (SqT.of (s1 _ _ ea)), atI_nat (j := 0) rfl, _, rfl, a, _, 1, _, rfl, rfl, .inr (SqT.of (s1 _ _ ea)), atI_nat (j := 1) rfl, vl, l, some x, rfl, hl.mono s1, by (first | lia | omega), by (first | lia | omega), hnl, fun r2 H2 n2 s2 e2 => ?_⟩
        have h2d : d ≠ r2 := fun z => by rw [← z, e1] at n2; cases n2
        refine ⟨d, r2, _, _, rfl, rfl, h2d, s2 _ _ e1, e2, sizeBig' (by simp only [List.length_cons, List.length_nil]; (first | lia | omega)), ?_⟩
        have m1 : mergeK [((Sum.inl x : Key), vO u)] (upsL l (some x)) = [((Sum.inl x : Key), vO u)] ++ upsL l (some x) := by
          refine merge_app _ _ ?_
          have : ((([((Sum.inl x : Key), vO u)] ++ upsL l (some x)) ++ upsL r (some x)).map (·.1)).Nodup := by simpa using hkn
          rw [List.map_append] at this
          exact (List.nodup_append.mp this).1
        rw [m1]
        have s3 : Same H (upd H2 d (.dK ([((Sum.inl x : Key), vO u)] ++ upsL l (some x)))) := same_upd (s1.trans s2) nd
        have e3 : upd H2 d (.dK ([((Sum.inl x : Key), vO u)] ++ upsL l (some x))) d = some (.dK ([((Sum.inl x : Key), vO u)] ++ upsL l (some x))) := upd_same
        generalize upd H2 d (.dK ([((Sum.inl x : Key), vO u)] ++ upsL l (some x))) = H3 at *
        refine ⟨_, rfl, .inr (.inr (.inl ⟨rfl, .inl ⟨_, e3⟩⟩)), _, rfl, a, _, 2, _, rfl, rfl, .inr (SqT.of (s3 _ _ ea)), atI_nat (j := 2) rfl, _, rfl, a, _, 1, _, rfl, rfl, .inr (SqT.of (s3 _ _ ea)), atI_nat (j := 1) rfl, vr, r, some x, rfl, hr'.mono s3, by (first | lia | omega), by (first | lia | omega), hnr, fun r4 H4 n4 s4 e4 => ?_⟩
        have h4d : d ≠ r4 := fun z => by rw [← z, e3] at n4; cases n4
        refine ⟨d, r4, _, _, rfl, rfl, h4d, s4 _ _ e3, e4, sizeBig' (by simp only [List.length_cons, List.length_nil, List.length_append]; (first | lia | omega)), ?_⟩
        rw [merge_app _ _ (by simpa using hkn)]
        refine ⟨_, rfl, q d _ nd (same_upd (s3.trans s4) nd) ?_⟩
        rw [upd_same, upsL]; simp
theorem ok_shuf {f : Addr} (F : Fd K mg "_law_shuffled" s_law_shuffled f) (T : Tx K mg) (C_law_take : Cal P w K mg base CX0 1 "_law_take" spTake) : Cal P w K mg base CX0 2 "_law_shuffled" spShuf := by
  refine F.cal sc_law_shuffled (fun _ _ _ _ _ _ us hl => L3.bind2 (fun _ _ => rfl) us hl) (fun vs H Q E h => ?_) (fun cdv A outer s H vs Q E hr h => ?_)
  · obtain ⟨p, a, xs, rfl, _⟩ := h; rfl
  · obtain ⟨p, a, xs, rfl, hp, hap, ea, hl, q⟩ := h
    refine ⟨_, (bcons (sset (i := 2) sc_law_shuffled.nd rfl (by first | exact Or.inl rfl | exact Or.inr rfl) (qlst qnil))
      (bcons (sfor PassesOwn.never rfl (iseq K (qv 1)) (gname (i := 3) sc_law_shuffled.nd rfl (by first | exact Or.inl rfl | exact Or.inr rfl))
        (bone (sexpr (qBm K PySem.F.plainAttrs_list PySem.F.slot_list_insert PySem.F.type_list_insert mInsert (qv 2) (qcons (qF C_law_take (hr.mono (by (first | lia | omega))) pass0 rfl (qcons (qv 0) (qcons (qop rAdd (qB (fLen K) rfl T.b_len bt_len (qcons (qv 2) qnil)) qint) qnil))) (qcons (qv 3) qnil))))))
      (bone (sret (qv 2))))), ?_⟩
    refine ⟨(show 0 ≤ sizeLine by decide), fun l H1 n1 s1 e1 _ => ?_⟩
    have hlp := hp.ne n1
    have ln : (rm p H) l = none := by rw [rm_ne hlp]; exact n1
    refine ⟨_, rfl, a, rfl, .inl ⟨⟨_, SqL.of (s1 _ _ ea)⟩, for_list (xs := xs) (fun i σ H' => ∃ z ys, σ = [some (.ref p), some (.ref a), some (.ref l), z] ∧ Same (rm p H) H' ∧ PenAt H' p ∧ H' l = some (.lst ys) ∧ ys.Perm (xs.take i))
      ⟨none, [], rfl, rm_same.trans s1, hp.mono s1, e1, List.Perm.refl _⟩ (fun i σ H' _ hh => by obtain ⟨_, _, _, s', _⟩ := hh; exact SqL.of (s' _ _ (by rw [rm_ne hap]; exact ea))) ?_ ?_⟩⟩
    · rintro i y σ H2 hy ⟨z, ys, rfl, s2, p2, e2, pm⟩
      have hyl : ys.length ≤ 100 := by
        have := pm.length_eq
        rw [List.length_take] at this; (first | lia | omega)
      refine ⟨_, rfl, .inl ⟨rfl, _, SqL.of e2⟩, _, rfl, _, rfl, l, _, rfl, .inl (SqL.of e2), p, _, rfl, p2, by (first | lia | omega), by (first | lia | omega), fun r3 H3 r30 r31 p3 s3 => ?_⟩
      have e3 := rm_look s3 e2 hlp
      refine ⟨_, rfl, l, _, r3, _, rfl, rfl, e3, r30, by (first | lia | omega), sizeBig (by (first | lia | omega)), ?_⟩
      obtain ⟨m4, n4, hp4⟩ := id p3
      refine ⟨_, _, rfl, same_upd (rm_trans s2 s3) ln, ⟨m4, n4, by rw [upd_ne hlp.symm]; exact hp4⟩, upd_same, ?_⟩
      rw [List.take_add_one, hy]
      exact (perm_ins ys y r3.toNat).trans (pm.append_right _)
    · rintro σ H2 ⟨z, ys, rfl, s2, p2, e2, pm⟩
      rw [List.take_length] at pm
      exact ⟨_, rfl, q l H2 ys n1 s2 p2 e2 pm⟩
end
end K36
namespace L3
open PySem L2
noncomputable def unI : V → Int
  | .int i => i
  | _ => 0
noncomputable def unR : V → Addr
  | .ref a => a
  | _ => 0
theorem perm_ints {ys : List V} {q : List Int} (h : ys.Perm (q.map V.int)) : ∃ q' : List Int, ys = q'.map V.int ∧ q'.Perm q := by
  refine ⟨ys.map unI, ?_, ?_⟩
  · rw [List.map_map]
    have : ∀ y ∈ ys, (V.int ∘ unI) y = y := fun y hy => by
      obtain ⟨i, _, rfl⟩ := List.mem_map.mp (h.mem_iff.mp hy)
      rfl
    conv => lhs; rw [← List.map_id ys]
    exact List.map_congr_left fun y hy => (this y hy).symm
  · have := h.map unI
    rw [List.map_map] at this
    have e : q.map (unI ∘ V.int) = q := (List.map_congr_left (fun _ _ => rfl)).trans (List.map_id q)
    rw [e] at this
    exact this
theorem perm_refs {ys : List V} {q : List Addr} (h : ys.Perm (q.map V.ref)) : ∃ q' : List Addr, ys = q'.map V.ref ∧ q'.Perm q := by
  refine ⟨ys.map unR, ?_, ?_⟩
  · rw [List.map_map]
    have : ∀ y ∈ ys, (V.ref ∘ unR) y = y := fun y hy => by
      obtain ⟨i, _, rfl⟩ := List.mem_map.mp (h.mem_iff.mp hy)
      rfl
    conv => lhs; rw [← List.map_id ys]
    exact List.map_congr_left fun y hy => (this y hy).symm
  · have := h.map unR
    rw [List.map_map] at this
    have e : q.map (unR ∘ V.ref) = q := (List.map_congr_left (fun _ _ => rfl)).trans (List.map_id q)
    rw [e] at this
    exact this
theorem Pgs.perm {H : Hp} {cs' cs : List Addr} (h : cs'.Perm cs) : ∀ {qs : List (List Int)}, Pgs H cs qs → ∃ qs' : List (List Int), Pgs H cs' qs' ∧ qs'.Perm qs := by
  induction h with
  | nil => intro qs h; cases qs with
    | nil => exact ⟨[], trivial, List.Perm.refl _⟩
    | cons q qs => exact h.elim
  | cons x _ ih =>
    intro qs h
    cases qs with
    | nil => exact h.elim
    | cons q qs =>
      obtain ⟨qs', g1, g2⟩ := ih h.2
      exact ⟨q :: qs', ⟨h.1, g1⟩, g2.cons q⟩
  | swap x y l =>
    intro qs h
    cases qs with
    | nil => exact h.elim
    | cons q qs =>
      cases qs with
      | nil => exact h.2.elim
      | cons q2 qs => exact ⟨q2 :: q :: qs, ⟨h.2.1, h.1, h.2.2⟩, List.Perm.swap q q2 qs⟩
  | trans _ _ ih1 ih2 =>
    intro qs h
    obtain ⟨q2, g1, g2⟩ := ih2 h
    obtain ⟨q1, g3, g4⟩ := ih1 g1
    exact ⟨q1, g3, g4.trans g2⟩
theorem Pgs.set {H : Hp} {y : Int} : ∀ {bs : List Addr} {ps : List (List Int)} {j : Nat} {b : Addr} {q : List Int}, Pgs H bs ps → bs.Nodup → bs[j]? = some b → ps[j]? = some q → Pgs (upd H b (.lst (q.map V.int ++ [.int y]))) bs (ps.set j (q ++ [y]))
  | [], [], _, _, _, _, _, e, _ => by simp at e
  | c :: bs, p :: ps, 0, b, q, h, hn, e, e2 => by
    simp at e e2
    subst e e2
    rw [List.nodup_cons] at hn
    refine ⟨by rw [upd_same, List.map_append]; rfl, h.2.stay fun d hd => upd_ne (fun z => hn.1 (z ▸ hd))⟩
  | c :: bs, p :: ps, j + 1, b, q, h, hn, e, e2 => by
    rw [List.nodup_cons] at hn
    have e' : bs[j]? = some b := by simpa using e
    have hcb : c ≠ b := fun z => hn.1 (z ▸ List.mem_of_getElem? e')
    exact ⟨by rw [upd_ne hcb]; exact h.1, Pgs.set h.2 hn.2 e' (by simpa using e2)⟩
  | [], _ :: _, _, _, _, h, _, _, _ => h.elim
  | _ :: _, [], _, _, _, h, _, _, _ => h.elim
theorem flat_set {y : Int} : ∀ {ps : List (List Int)} {j : Nat} {q : List Int}, ps[j]? = some q → (ps.set j (q ++ [y])).flatten.Perm (ps.flatten ++ [y])
  | [], _, _, e => by simp at e
  | p :: ps, 0, q, e => by
    simp at e
    subst e
    rw [List.set_cons_zero, List.flatten_cons, List.flatten_cons, List.append_assoc, List.append_assoc]
    exact List.Perm.append_left _ List.perm_append_comm
  | p :: ps, j + 1, q, e => by
    rw [List.set_cons_succ, List.flatten_cons, List.flatten_cons, List.append_assoc]
    exact List.Perm.append_left _ (flat_set (ps := ps) (j := j) (by simpa using e))
theorem mem_set {ps : List (List Int)} {j : Nat} {q' : List Int} {z : List Int} (h : z ∈ ps.set j q') : z = q' ∨ z ∈ ps := by
  rcases List.mem_or_eq_of_mem_set h with h | h
  · exact .inr h
  · exact .inl h
theorem flat_len : ∀ {ps : List (List Int)} {q : List Int}, q ∈ ps → q.length ≤ ps.flatten.length
  | p :: ps, q, h => by
    rw [List.flatten_cons, List.length_append]
    rcases List.mem_cons.mp h with rfl | h
    · (first | lia | omega)
    · have := flat_len (ps := ps) h; (first | lia | omega)
theorem atI_refs {bs : List Addr} {j : Nat} {b : Addr} (h : bs[j]? = some b) : atI (bs.map V.ref) (j : Int) = some (.ref b) := atI_nat (by rw [List.getElem?_map, h]; rfl)
end L3
namespace K36
open PySem L2 L3
structure LI (p l ds du : Addr) (B : Hp) (t : Tr) (room : Int) (m : Nat) (done : List Int) (bs : List Addr) (pss : List (List Int)) (kvs : List (Key × V)) (H : Hp) : Prop where
  s : Same B H
  pen : PenAt H p
  eu : H du = some (.dK (upsL t none))
  el : H l = some (.lst (bs.map V.ref))
  pg : Pgs H bs pss
  nd : bs.Nodup
  fr : ∀ b ∈ bs, B b = none ∧ b ≠ p ∧ b ≠ l
  ed : H ds = some (.dK kvs)
  vals : ∀ y v, valV kvs (Sum.inl y : Key) = some v → ∃ n : Nat, v = .int (n : Int) ∧ n < pss.length
  kl : kvs.length ≤ done.length
  perm : pss.flatten.Perm done
  rmm : ∀ q ∈ pss, (q.length : Int) ≤ room
  len : pss.length ≤ m
  uds : du ≠ ds
theorem LI.take {p l ds du : Addr} {B : Hp} {t : Tr} {room : Int} {m : Nat} {done : List Int} {bs : List Addr} {pss : List (List Int)} {kvs : List (Key × V)} {H H' : Hp} (h : LI p l ds du B t room m done bs pss kvs H) (hB : B p = none) (hl : l ≠ p) (s : Same (rm p H) H') (hp : PenAt H' p) : LI p l ds du B t room m done bs pss kvs H' := by
  obtain ⟨m', n', ep⟩ := h.pen
  have hu : du ≠ p := fun z => by have := h.eu; rw [z, ep] at this; cases this
  have hd : ds ≠ p := fun z => by have := h.ed; rw [z, ep] at this; cases this
  refine ⟨(rm_of h.s hB).trans s, hp, rm_look s h.eu hu, rm_look s h.el hl, (h.pg.stay (H' := rm p H) fun b hb => rm_ne (h.fr b hb).2.1).mono s, h.nd, h.fr, rm_look s h.ed hd, h.vals, h.kl, h.perm, h.rmm, h.len, h.uds⟩
theorem LI.mono {p l ds du : Addr} {B : Hp} {t : Tr} {room : Int} {m : Nat} {done : List Int} {bs : List Addr} {pss : List (List Int)} {kvs : List (Key × V)} {H H' : Hp} (h : LI p l ds du B t room m done bs pss kvs H) (s : Same H H') : LI p l ds du B t room m done bs pss kvs H' :=
  ⟨h.s.trans s, h.pen.mono s, s _ _ h.eu, s _ _ h.el, h.pg.mono s, h.nd, h.fr, s _ _ h.ed, h.vals, h.kl, h.perm, h.rmm, h.len, h.uds⟩
theorem LI.more {p l ds du b : Addr} {B : Hp} {t : Tr} {room : Int} {m : Nat} {done : List Int} {bs : List Addr} {pss : List (List Int)} {kvs : List (Key × V)} {H H' : Hp} (h : LI p l ds du B t room m done bs pss kvs H) (hr : 0 ≤ room) (hl : B l = none) (hlp : l ≠ p)
    (nb : H b = none) (s : Same H H') (eb : H' b = some (.lst [])) : LI p l ds du B t room (m + 1) done (bs ++ [b]) (pss ++ [[]]) kvs (upd H' l (.lst (bs.map V.ref ++ [.ref b]))) := by
  have hbl : b ≠ l := fun z => by have := h.el; rw [← z, nb] at this; cases this
  have hbp : b ≠ p := fun z => by obtain ⟨_, _, ep⟩ := h.pen; rw [← z, nb] at ep; cases ep
  have hul : du ≠ l := fun z => by have := h.eu; rw [z, h.el] at this; cases this
  have hdl : ds ≠ l := fun z => by have := h.ed; rw [z, h.el] at this; cases this
  have hbs : b ∉ bs := fun z => by
    obtain ⟨q, _, e⟩ := h.pg.of z
    rw [nb] at e; cases e
  have hp := h.pen.mono s
  refine ⟨same_upd (h.s.trans s) hl, ?_, by rw [upd_ne hul]; exact s _ _ h.eu, by rw [upd_same, List.map_append]; rfl, ?_, ?_, ?_, by rw [upd_ne hdl]; exact s _ _ h.ed, fun y v e => ?_, h.kl, by simpa using h.perm, ?_, by have := h.len; simp; (first | lia | omega), h.uds⟩
  · obtain ⟨m', n', e⟩ := hp
    exact ⟨m', n', by rw [upd_ne hlp.symm]; exact e⟩
  · refine Pgs.snoc ((h.pg.mono s).stay fun c hc => upd_ne (h.fr c hc).2.2) ?_
    rw [upd_ne hbl]; exact eb
  · rw [List.nodup_append]
    exact ⟨h.nd, by simp, fun a ha c hc z => by rw [List.mem_singleton] at hc; subst hc z; exact hbs ha⟩
  · intro c hc
    rcases List.mem_append.mp hc with hc | hc
    · exact h.fr c hc
    · rw [List.mem_singleton] at hc; subst hc
      exact ⟨h.s.free nb, hbp, hbl⟩
  · obtain ⟨n, e1, e2⟩ := h.vals y v e
    exact ⟨n, e1, by simp; (first | lia | omega)⟩
  · intro q hq
    rcases List.mem_append.mp hq with hq | hq
    · exact h.rmm q hq
    · rw [List.mem_singleton] at hq; subst hq; exact hr
theorem LI.put {p l ds du b : Addr} {B : Hp} {t : Tr} {room : Int} {m j : Nat} {done q : List Int} {y : Int} {bs : List Addr} {pss : List (List Int)} {kvs : List (Key × V)} {H : Hp} (h : LI p l ds du B t room m done bs pss kvs H) (hB : B ds = none)
    (hb : bs[j]? = some b) (hq : pss[j]? = some q) (hr : (q.length : Int) < room) :
    LI p l ds du B t room m (done ++ [y]) bs (pss.set j (q ++ [y])) (putK kvs (Sum.inl y : Key) (.int (j : Int))) (upd (upd H b (.lst (q.map V.int ++ [.int y]))) ds (.dK (putK kvs (Sum.inl y : Key) (.int (j : Int))))) := by
  have hbm := List.mem_of_getElem? hb
  obtain ⟨f1, f2, f3⟩ := h.fr b hbm
  obtain ⟨q', hq', eb⟩ := h.pg.at hb
  have hdb : ds ≠ b := fun z => by have := h.ed; rw [z, eb] at this; cases this
  have hub : du ≠ b := fun z => by have := h.eu; rw [z, eb] at this; cases this
  have hdl : ds ≠ l := fun z => by have := h.ed; rw [z, h.el] at this; cases this
  have hdp : ds ≠ p := fun z => by obtain ⟨_, _, ep⟩ := h.pen; have := h.ed; rw [z, ep] at this; cases this
  have hud := h.uds
  have hds : ∀ c ∈ bs, c ≠ ds := fun c hc z => by
    obtain ⟨q2, _, e⟩ := h.pg.of hc
    rw [z, h.ed] at e; cases e
  have hjl : j < pss.length := (List.getElem?_eq_some_iff.mp hq).1
  refine ⟨same_upd (same_upd h.s f1) hB, ?_, by rw [upd_ne hud, upd_ne hub]; exact h.eu, by rw [upd_ne hdl.symm, upd_ne f3.symm]; exact h.el, (h.pg.set h.nd hb hq).stay fun c hc => upd_ne (hds c hc), h.nd, h.fr, upd_same, fun z v e => ?_, ?_, ?_, ?_, by rw [List.length_set]; exact h.len, h.uds⟩
  · obtain ⟨m', n', e⟩ := h.pen
    exact ⟨m', n', by rw [upd_ne hdp.symm, upd_ne f2.symm]; exact e⟩
  · rw [List.length_set]
    by_cases hz : z = y
    · subst hz
      rw [valV_put, if_pos rfl] at e
      exact ⟨j, (Option.some.inj e).symm, hjl⟩
    · rw [valV_put, if_neg (fun w => hz (Sum.inl.inj w))] at e
      exact h.vals z v e
  · have h1 := length_putK kvs (Sum.inl y : Key) (.int (j : Int))
    have h2 := h.kl
    rw [List.length_append, List.length_singleton]; (first | lia | omega)
  · exact (flat_set hq).trans (h.perm.append_right _)
  · intro q2 hq2
    rcases mem_set hq2 with rfl | hq2
    · rw [List.length_append, List.length_singleton]; (first | lia | omega)
    · exact h.rmm q2 hq2
end K36
namespace K36
open PySem L2 L3
noncomputable def frs (pss : List (List Int)) (room : Int) (i : Nat) : List Int := ((List.range i).filter (fun k => decide (((pss.getD k []).length : Int) < room))).map (fun k : Nat => (k : Int))
theorem frs_succ (pss : List (List Int)) (room : Int) (i : Nat) : frs pss room (i + 1) = frs pss room i ++ (if ((pss.getD i []).length : Int) < room then [(i : Int)] else []) := by
  unfold frs
  rw [List.range_succ, List.filter_append, List.map_append]
  congr 1
  by_cases h : ((pss.getD i []).length : Int) < room
  · rw [if_pos h, List.filter_cons, if_pos (decide_eq_true h)]; rfl
  · rw [if_neg h, List.filter_cons, if_neg (fun z => h (of_decide_eq_true z))]; rfl
theorem frs_len (pss : List (List Int)) (room : Int) (i : Nat) : (frs pss room i).length ≤ i := by
  unfold frs
  rw [List.length_map]
  exact Nat.le_trans (List.length_filter_le _ _) (by simp)
theorem frs_mem {pss : List (List Int)} {room : Int} {i : Nat} {c : Int} (h : c ∈ frs pss room i) : ∃ k : Nat, c = (k : Int) ∧ k < i ∧ ((pss.getD k []).length : Int) < room := by
  unfold frs at h
  obtain ⟨k, hk, rfl⟩ := List.mem_map.mp h
  rw [List.mem_filter, List.mem_range] at hk
  exact ⟨k, rfl, hk.1, of_decide_eq_true hk.2⟩
noncomputable def spLayout : Sp := fun vs H Q _ => ∃ (p : Addr) (v : V) (t : Tr) (a : Addr) (xs : List Int) (room : Int), vs = [.ref p, v, .ref a, .int room] ∧ PenAt H p ∧ Rep H v (Tr.d t) ∧ a ≠ p ∧ H a = some (.lst (xs.map V.int)) ∧ t.ord none none ∧ (∀ y, y ∈ t.keys ↔ y ∈ xs) ∧ t.size ≤ 60 ∧ xs.length ≤ 60 ∧ 1 ≤ room ∧
  ∀ (r : Addr) (H' : Hp) (bs : List Addr) (pss : List (List Int)), H r = none → Same (rm p H) H' → PenAt H' p → H' r = some (.lst (bs.map V.ref)) → Pgs H' bs pss → pss.flatten.Perm xs → (∀ q ∈ pss, (q.length : Int) ≤ room) → pss.length ≤ 61 → (∀ b ∈ bs, b ≠ p ∧ H b = none) → Q (.ref r) H'
section
variable {P : Program} {w : World} {K : PySem.W.Frag} {mg : Str → Option Value} {base : Heap}
theorem ok_layout {f : Addr} (F : Fd K mg "_law_layout" s_law_layout f) (T : Tx K mg) (C_law_take : Cal P w K mg base CX0 1 "_law_take" spTake) (C_law_ups : Cal P w K mg base CX0 80 "_law_ups" (spUps 80)) (C_law_shuffled : Cal P w K mg base CX0 2 "_law_shuffled" spShuf) : Cal P w K mg base CX0 82 "_law_layout" spLayout := by
  refine F.cal sc_law_layout (fun _ _ _ _ _ _ us hl => L3.bind4 (fun _ _ _ _ => rfl) us hl) (fun vs H Q E h => ?_) (fun cdv A outer s H vs Q E hr h => ?_)
  · obtain ⟨p, v, t, a, xs, room, rfl, _⟩ := h; rfl
  · obtain ⟨p, v, t, a, xs, room, rfl, hp, hv, hap, ea, ho, hm, hz, hx, hroom, q⟩ := h
    have hht := Tr.ht_size t
    have hnd : t.keys.Nodup := (ord_rise t _ _ ho).imp (fun h => by (first | lia | omega))
    refine ⟨_, (bcons (sset (i := 4) sc_law_layout.nd rfl (by first | exact Or.inl rfl | exact Or.inr rfl) (qF C_law_ups (hr.mono (by (first | lia | omega))) pass0 rfl (qcons (qv 1) (qcons qnon qnil))))
      (bcons (sset (i := 5) sc_law_layout.nd rfl (by first | exact Or.inl rfl | exact Or.inr rfl) (qF C_law_take (hr.mono (by (first | lia | omega))) pass0 rfl (qcons (qv 0) (qcons qint qnil))))
      (bcons (sset (i := 6) sc_law_layout.nd rfl (by first | exact Or.inl rfl | exact Or.inr rfl) (qlst qnil))
      (bcons (sset (i := 7) sc_law_layout.nd rfl (by first | exact Or.inl rfl | exact Or.inr rfl) qdict)
      (bcons (sfor PassesOwn.never rfl (iseq K (qv 2)) (gname (i := 8) sc_law_layout.nd rfl (by first | exact Or.inl rfl | exact Or.inr rfl))
        (bcons (ssetC (i := 9) (sc := defScope s_law_layout) (NX := ["_law_pen_here", "_law_tree", "_law_keys_here", "_law_room", "_law_ups_here", "_law_sort", "_law_pages", "_law_spots", "_law_key", "_law_free", "_law_at"]) ["_law_k", "_law_pages", "_law_room"] [none, some 6, some 3] rfl sc_law_layout.nd rfl rfl (irange1 rfl T.b_range (qcons (qB (fLen K) rfl T.b_len bt_len (qcons (qv 6) qnil)) qnil)) (fun _ _ _ => (gname (i := 0) (show (["_law_k", "_law_pages", "_law_room"] : List Str).Nodup by decide +kernel) rfl (by first | exact Or.inl rfl | exact Or.inr rfl))) (fun _ _ _ => (csone (tcmp rLt (qB (fLen K) rfl T.b_len bt_len (qcons (qix (xIx K) (qv 1) (qv 0) (fun _ _ => rfl)) qnil)) (qv 2) (nomark _)))) (fun _ _ _ => (qv 0)) rfl rfl (by decide +kernel) rfl)
        (bcons (sset (i := 10) sc_law_layout.nd rfl (by first | exact Or.inl rfl | exact Or.inr rfl) (qB (fLen K) rfl T.b_len bt_len (qcons (qv 6) qnil)))
        (bcons (sif (QW.tst (wand (tcmp rLt (qv 5) qint (nomark _)) (wand (tcmp (rInn K) (qdn2 hr (qv 7) (qdget hr (qv 4) (qv 8) (fun _ _ => rfl)) (qun rNeg qint)) (qv 9) (by with_unfolding_all rfl)) (wand1 (tcmp rGt (qF C_law_take (hr.mono (by (first | lia | omega))) pass0 rfl (qcons (qv 0) (qcons qint qnil))) qint (nomark _)))))) (bone (sset (i := 10) sc_law_layout.nd rfl (by first | exact Or.inl rfl | exact Or.inr rfl) (qdget hr (qv 7) (qdget hr (qv 4) (qv 8) (fun _ _ => rfl)) (fun _ _ => rfl)))) bnil)
        (bcons (sif (QW.tst (wand (tcmp (rEqq hr) (qv 5) qint (nomark _)) (wand (tcmp (rNeq hr) (qv 9) (qlst qnil) (nomark _)) (wand1 (tcmp rGt (qF C_law_take (hr.mono (by (first | lia | omega))) pass0 rfl (qcons (qv 0) (qcons qint qnil))) qint (nomark _)))))) (bone (sset (i := 10) sc_law_layout.nd rfl (by first | exact Or.inl rfl | exact Or.inr rfl) (qix (xIx K) (qv 9) (qF C_law_take (hr.mono (by (first | lia | omega))) pass0 rfl (qcons (qv 0) (qcons (qB (fLen K) rfl T.b_len bt_len (qcons (qv 9) qnil)) qnil))) (fun _ _ => rfl)))) bnil)
        (bcons (sif (tcmp (rEqq hr) (qv 10) (qB (fLen K) rfl T.b_len bt_len (qcons (qv 6) qnil)) (nomark _)) (bone (sexpr (qBm K PySem.F.plainAttrs_list PySem.F.slot_list_append PySem.F.type_list_append mAppend (qv 6) (qcons (qlst qnil) qnil)))) bnil)
        (bcons (sexpr (qBm K PySem.F.plainAttrs_list PySem.F.slot_list_append PySem.F.type_list_append mAppend (qix (xIx K) (qv 6) (qv 10) (fun _ _ => rfl)) (qcons (qv 8) qnil)))
        (bone (sdput hr (qv 7) (qv 8) (qv 10) rfl)))))))))
      (bcons (sif (tcmp (rEqq hr) (qF C_law_take (hr.mono (by (first | lia | omega))) pass0 rfl (qcons (qv 0) (qcons qint qnil))) qint (nomark _)) (bone (sexpr (qBm K PySem.F.plainAttrs_list PySem.F.slot_list_append PySem.F.type_list_append mAppend (qv 6) (qcons (qlst qnil) qnil)))) bnil)
      (bone (sret (qF C_law_shuffled (hr.mono (by (first | lia | omega))) pass0 rfl (qcons (qv 0) (qcons (qcomp (sc := defScope s_law_layout) (NX := ["_law_pen_here", "_law_tree", "_law_keys_here", "_law_room", "_law_ups_here", "_law_sort", "_law_pages", "_law_spots", "_law_key", "_law_free", "_law_at"]) ["_law_page", "_law_pen_here"] [none, some 0] rfl (iseq K (qv 6)) (fun _ _ _ => (gname (i := 0) (show (["_law_page", "_law_pen_here"] : List Str).Nodup by decide +kernel) rfl (by first | exact Or.inl rfl | exact Or.inr rfl))) (fun _ _ _ => csnil) (fun _ _ _ => (qF C_law_shuffled (hr.mono (by (first | lia | omega))) pass0 rfl (qcons (qv 1) (qcons (qv 0) qnil)))) rfl rfl (by decide +kernel)) qnil))))))))))), ?_⟩
    refine ⟨_, rfl, v, t, none, rfl, hv, by (first | lia | omega), by (first | lia | omega), hnd, fun du H1 n1 s1 e1 => ?_⟩
    have p1 := hp.mono s1
    refine ⟨_, rfl, p, 4, rfl, p1, by decide, by decide, fun sort H2 so0 so1 p2 s2 => ?_⟩
    have hup := p1
    have hdup : du ≠ p := hp.ne n1
    have e2 := rm_look s2 e1 hdup
    have t2 : Same (rm p H) H2 := rm_trans (rm_same.trans s1) s2
    refine ⟨(show 0 ≤ sizeLine by decide), fun l H3 n3 s3 e3 _ => ?_⟩
    refine fun ds H4 n4 s4 e4 _ => ?_
    have hlp : l ≠ p := p2.ne n3
    have hdp : ds ≠ p := (p2.mono s3).ne n4
    have Bp : (rm p H) p = none := rm_self
    have Bl : (rm p H) l = none := t2.free n3
    have Bd : (rm p H) ds = none := (t2.trans s3).free n4
    have eaB : (rm p H) a = some (.lst (xs.map V.int)) := by rw [rm_ne hap]; exact ea
    have hud : du ≠ ds := fun z => by have := s3 _ _ e2; rw [z, n4] at this; cases this
    have L0 : LI p l ds du (rm p H) t room 0 [] [] [] [] H4 := ⟨(t2.trans s3).trans s4, (p2.mono s3).mono s4, s4 _ _ (s3 _ _ e2), s4 _ _ e3, trivial, List.nodup_nil, by simp, e4, fun y v e => by simp [valV] at e, Nat.le_refl _, List.Perm.refl _, by simp, Nat.le_refl _, hud⟩
    refine ⟨_, rfl, a, rfl, .inl ⟨⟨_, SqL.of (L0.s _ _ eaB)⟩, for_listN (xs := xs.map V.int) (fun i σ H' => ∃ z8 z9 z10 bs pss kvs, σ = [some (.ref p), some v, some (.ref a), some (.int room), some (.ref du), some (.int sort), some (.ref l), some (.ref ds), z8, z9, z10] ∧ LI p l ds du (rm p H) t room i (xs.take i) bs pss kvs H')
      ⟨none, none, none, [], [], [], rfl, L0⟩ (fun i σ H' _ hh => by obtain ⟨_, _, _, _, _, _, _, L⟩ := hh; exact SqL.of (L.s _ _ eaB)) ?_ ?_⟩⟩
    · rintro N B R i y σ G0 hy hN hB hR ⟨z8, z9, z10, bs, pss, kvs, rfl, L⟩
      rw [List.getElem?_map] at hy
      obtain ⟨y, hy1, rfl⟩ := Option.map_eq_some_iff.mp hy
      have hil : i < xs.length := (List.getElem?_eq_some_iff.mp hy1).1
      have hyt : y ∈ t.keys := (hm y).mpr (List.mem_of_getElem? hy1)
      have hbl := L.pg.len
      have hpl := L.len
      have hbn : (bs.map V.ref).length = pss.length := by rw [List.length_map, hbl]
      -- the free pages
      refine ⟨_, rfl, l, _, rfl, .inl (SqL.of L.el), _, rfl, by (first | lia | omega), by (first | lia | omega), fun acc ha => ?_⟩
      refine comp_range (fun j ys σ H' => ∃ z, σ = [z, some (.ref l), some (.int room)] ∧ Same G0 H' ∧ H' acc = some (.lst ys) ∧ ys = (frs pss room j).map V.int) ⟨none, rfl, same_new ha, upd_same, rfl⟩ ?_ ?_
      · rintro j ys σ G1 hj ⟨z, rfl, s1', e1', rfl⟩
        have hj' : j < bs.length := by
          have : (((bs.map V.ref).length : Nat) : Int).toNat = bs.length := by rw [List.length_map]; (first | lia | omega)
          (first | lia | omega)
        obtain ⟨qj, hqj, ebj⟩ := L.pg.at (List.getElem?_eq_getElem hj')
        have hgd : pss.getD j [] = qj := by rw [List.getD_eq_getElem?_getD, hqj]; rfl
        have hz0 : (0 : Int) + (j : Int) = (j : Int) := Int.zero_add _
        have hfl := frs_len pss room j
        refine ⟨_, rfl, _, rfl, l, _, _, .ref bs[j], rfl, rfl, .inl (SqL.of (s1' _ _ L.el)), by rw [hz0]; exact atI_refs (List.getElem?_eq_getElem hj'), bs[j], _, rfl, .inl (SqL.of (s1' _ _ ebj)), _, rfl, _, _, rfl, rfl, _, rfl, ?_⟩
        have hqn : (qj.map V.int).length = qj.length := List.length_map _
        rw [hqn]
        by_cases hlt : (qj.length : Int) < room
        · rw [decide_eq_true hlt]
          refine iteT ?_
          refine ⟨_, rfl, ?_⟩
          refine cpost e1' (sizeBig (by rw [List.length_map]; (first | lia | omega))) hj ?_
          exact ⟨_, rfl, same_upd s1' ha, upd_same, by rw [frs_succ, hgd, if_pos hlt, List.map_append, hz0]; rfl⟩
        · rw [decide_eq_false hlt]
          refine iteF ?_
          refine cskip hj (ys := (frs pss room j).map V.int) ?_
          exact ⟨_, rfl, s1', e1', by rw [frs_succ, hgd, if_neg hlt, List.append_nil]⟩
      · rintro ys σ G1 ⟨z, rfl, s1', e1', rfl⟩
        have hnn : (((bs.map V.ref).length : Nat) : Int).toNat = pss.length := by rw [hbn]; (first | lia | omega)
        rw [hnn] at e1'
        have L1 := L.mono s1'
        have hap' : acc ≠ p := L.pen.ne ha
        have hacc : ∀ b ∈ bs, b ≠ acc := fun b hb z => by
          obtain ⟨q', _, e⟩ := L.pg.of hb
          rw [z, ha] at e; cases e
        have hal : l ≠ acc := fun z => by have := L.el; rw [z, ha] at this; cases this
        have had : ds ≠ acc := fun z => by have := L.ed; rw [z, ha] at this; cases this
        -- at = len(pages)
        refine ⟨_, rfl, l, _, rfl, .inl (SqL.of L1.el), ?_⟩
        rw [hbn]
        -- the first if
        apply join (fun σ' H' => ∃ at_ : Nat, σ' = [some (.ref p), some v, some (.ref a), some (.int room), some (.ref du), some (.int sort), some (.ref l), some (.ref ds), some (.int y), some (.ref acc), some (.int (at_ : Int))] ∧ LI p l ds du (rm p H) t room i (xs.take i) bs pss kvs H' ∧ H' acc = some (.lst ((frs pss room pss.length).map V.int)) ∧ at_ ≤ pss.length ∧ (at_ < pss.length → ((pss.getD at_ []).length : Int) < room))
        case h2 =>
          intro hj
          refine ⟨_, rfl, _, _, rfl, rfl, _, rfl, ?_⟩
          have stay : ∀ H', LI p l ds du (rm p H) t room i (xs.take i) bs pss kvs H' → H' acc = some (.lst ((frs pss room pss.length).map V.int)) → ∃ at_ : Nat, [some (V.ref p), some v, some (.ref a), some (.int room), some (.ref du), some (.int sort), some (.ref l), some (.ref ds), some (.int y), some (.ref acc), some (.int ((pss.length : Nat) : Int))] = [some (.ref p), some v, some (.ref a), some (.int room), some (.ref du), some (.int sort), some (.ref l), some (.ref ds), some (.int y), some (.ref acc), some (.int (at_ : Int))] ∧ LI p l ds du (rm p H) t room i (xs.take i) bs pss kvs H' ∧ H' acc = some (.lst ((frs pss room pss.length).map V.int)) ∧ at_ ≤ pss.length ∧ (at_ < pss.length → ((pss.getD at_ []).length : Int) < room) :=
            fun H' L' e' => ⟨pss.length, rfl, L', e', Nat.le_refl _, fun h => by (first | lia | omega)⟩
          by_cases hs2 : sort < 2
          · rw [decide_eq_true hs2]
            refine iteT ?_
            have hval := upsL_val ho hyt
            refine ⟨_, rfl, ds, rfl, .inl ⟨_, .inl L1.ed⟩, _, rfl, _, rfl, du, _, rfl, .inl ⟨_, Sum.inl y, .inl L1.eu, rfl, hval.symm⟩, _, rfl, ?_⟩
            obtain ⟨o, hoo, c, hc, hcm⟩ : ∃ o, DGetO G1 ds (vO (upW (way y t))) o ∧ ∃ c : Int, o.getD (.int (-1)) = .int c ∧ (c ∈ frs pss room pss.length → ∃ (u : Int) (n : Nat), upW (way y t) = some u ∧ valV kvs (Sum.inl u : Key) = some (.int (n : Int)) ∧ c = (n : Int)) := by
              have hneg : ∀ c : Int, c = -1 → c ∈ frs pss room pss.length → False := fun c hc hm => by
                obtain ⟨k, hk, _⟩ := frs_mem hm
                (first | lia | omega)
              cases hu : upW (way y t) with
              | none => exact ⟨none, .inr ⟨rfl, ⟨_, .inl L1.ed⟩, rfl⟩, -1, rfl, fun h => (hneg _ rfl h).elim⟩
              | some u =>
                refine ⟨valV kvs (Sum.inl u : Key), .inl (.inl ⟨kvs, Sum.inl u, .inl L1.ed, rfl, rfl⟩), ?_⟩
                cases hv2 : valV kvs (Sum.inl u : Key) with
                | none => exact ⟨-1, rfl, fun h => (hneg _ rfl h).elim⟩
                | some v2 =>
                  obtain ⟨n, rfl, _⟩ := L1.vals u v2 hv2
                  exact ⟨(n : Int), rfl, fun _ => ⟨u, n, rfl, hv2, rfl⟩⟩
            refine ⟨o, hoo, ?_⟩
            show _
            rw [show ((fun i => V.int (-i)) 1 : V) = V.int (-1) from rfl, hc]
            refine ⟨_, rfl, acc, _, rfl, .inl (SqL.of e1'), rfl, flat_ints _, _, rfl, ?_⟩
            rw [if_neg (by decide), inV_ints]
            by_cases hcf : c ∈ frs pss room pss.length
            · rw [decide_eq_true hcf]
              refine iteT ?_
              obtain ⟨u, n, hu, hvu, rfl⟩ := hcm hcf
              refine ⟨_, rfl, p, 4, rfl, L1.pen, by decide, by decide, fun r5 G2 r50 r51 p5 s5 => ?_⟩
              have L2 := L1.take Bp hlp s5 p5
              have e5 := rm_look s5 e1' hap'
              refine ⟨_, _, rfl, rfl, _, rfl, ?_⟩
              refine ite2 (fun _ => ?_) (fun _ => hj _ _ (stay _ L2 e5))
              · refine ⟨_, rfl, _, rfl, _, rfl, du, _, rfl, .inl ⟨_, Sum.inl y, .inl L2.eu, rfl, hval.symm⟩, ds, .int (n : Int), rfl, .inl ⟨kvs, Sum.inl u, .inl L2.ed, by rw [hu]; rfl, hvu.symm⟩, ?_⟩
                obtain ⟨k, hk, hk1, hk2⟩ := frs_mem hcf
                have hkn : k = n := by (first | lia | omega)
                subst hkn
                exact hj _ _ ⟨k, rfl, L2, e5, by (first | lia | omega), fun _ => hk2⟩
            · rw [decide_eq_false hcf]
              refine iteF ?_
              refine iteF ?_
              exact hj _ _ (stay _ L1 e1')
          · rw [decide_eq_false hs2]
            refine iteF ?_
            refine iteF ?_
            exact hj _ _ (stay _ L1 e1')
        rintro σ G2 ⟨at1, rfl, L2, e2', ha1, ha2⟩
        -- the second if
        apply join (fun σ' H' => ∃ at_ : Nat, σ' = [some (.ref p), some v, some (.ref a), some (.int room), some (.ref du), some (.int sort), some (.ref l), some (.ref ds), some (.int y), some (.ref acc), some (.int (at_ : Int))] ∧ LI p l ds du (rm p H) t room i (xs.take i) bs pss kvs H' ∧ at_ ≤ pss.length ∧ (at_ < pss.length → ((pss.getD at_ []).length : Int) < room))
        case h2 =>
          intro hj
          refine ⟨_, rfl, _, rfl, ?_⟩
          refine ite2 (fun _ => ?_) (fun _ => ?_)
          · refine ⟨_, rfl, (show 0 ≤ sizeLine by decide), fun l3 G3 n3' s3' e3' _ => ?_⟩
            have L3 := L2.mono s3'
            have e23 := s3' _ _ e2'
            refine ne_ints (ys := []) e23 e3' ?_
            refine ⟨_, rfl, ?_⟩
            by_cases hfe : frs pss room pss.length = []
            · rw [decide_eq_true hfe]
              refine iteF ?_
              refine iteF ?_
              exact hj _ _ ⟨at1, rfl, L3, ha1, ha2⟩
            · rw [decide_eq_false hfe]
              refine iteT ?_
              refine ⟨_, rfl, p, 4, rfl, L3.pen, by decide, by decide, fun r5 G4 r50 r51 p5 s5 => ?_⟩
              have L4 := L3.take Bp hlp s5 p5
              have e4' := rm_look s5 e23 hap'
              refine ⟨_, _, rfl, rfl, _, rfl, ?_⟩
              refine ite2 (fun _ => ?_) (fun _ => hj _ _ ⟨at1, rfl, L4, ha1, ha2⟩)
              have hfp : 0 < (frs pss room pss.length).length := List.length_pos_iff.mpr hfe
              have hfl := frs_len pss room pss.length
              have hln : ((frs pss room pss.length).map V.int).length = (frs pss room pss.length).length := List.length_map _
              refine ⟨_, rfl, _, rfl, _, rfl, acc, _, rfl, .inl (SqL.of e4'), p, _, rfl, L4.pen, by rw [hln]; (first | lia | omega), by rw [hln]; (first | lia | omega), fun r6 G5 r60 r61 p6 s6 => ?_⟩
              rw [hln] at r61
              obtain ⟨c, hcx, hcm⟩ := atI_ints (ns := frs pss room pss.length) r60 r61
              have L5 := L4.take Bp hlp s6 p6
              refine ⟨acc, _, _, .int c, rfl, rfl, .inl (SqL.of (rm_look s6 e4' hap')), hcx, ?_⟩
              obtain ⟨k, rfl, hk1, hk2⟩ := frs_mem hcm
              exact hj _ _ ⟨k, rfl, L5, by (first | lia | omega), fun _ => hk2⟩
          · refine iteF ?_
            exact hj _ _ ⟨at1, rfl, L2, ha1, ha2⟩
        rintro σ G3 ⟨at2, rfl, L3, hb1, hb2⟩
        -- a new page
        apply join (fun σ' H' => ∃ (bs' : List Addr) (pss' : List (List Int)) (b : Addr) (q' : List Int), σ' = [some (.ref p), some v, some (.ref a), some (.int room), some (.ref du), some (.int sort), some (.ref l), some (.ref ds), some (.int y), some (.ref acc), some (.int (at2 : Int))] ∧ LI p l ds du (rm p H) t room (i + 1) (xs.take i) bs' pss' kvs H' ∧ bs'[at2]? = some b ∧ pss'[at2]? = some q' ∧ (q'.length : Int) < room)
        case h2 =>
          intro hj
          refine ⟨_, rfl, _, rfl, l, _, rfl, .inl (SqL.of L3.el), _, rfl, ?_⟩
          rw [hbn]
          by_cases hat : at2 = pss.length
          · rw [decide_eq_true (show (at2 : Int) = ((pss.length : Nat) : Int) by (first | lia | omega))]
            refine iteT ?_
            refine ⟨_, rfl, .inl ⟨rfl, _, SqL.of L3.el⟩, (show 0 ≤ sizeLine by decide), fun b G4 n4' s4' e4' _ => ?_⟩
            refine ⟨l, _, _, rfl, rfl, s4' _ _ L3.el, sizeBig (by rw [hbn]; (first | lia | omega)), ?_⟩
            refine hj _ _ ⟨bs ++ [b], pss ++ [[]], b, [], rfl, L3.more (by (first | lia | omega)) Bl hlp n4' s4' e4', ?_, ?_, by simp; (first | lia | omega)⟩
            · rw [hat, ← hbl, List.getElem?_append_right (Nat.le_refl _)]; simp
            · rw [hat, List.getElem?_append_right (Nat.le_refl _)]; simp
          · rw [decide_eq_false (show ¬ (at2 : Int) = ((pss.length : Nat) : Int) by (first | lia | omega))]
            refine iteF ?_
            have hlt : at2 < pss.length := by (first | lia | omega)
            have hlb : at2 < bs.length := by (first | lia | omega)
            refine hj _ _ ⟨bs, pss, bs[at2], pss[at2], rfl, ⟨L3.s, L3.pen, L3.eu, L3.el, L3.pg, L3.nd, L3.fr, L3.ed, L3.vals, L3.kl, L3.perm, L3.rmm, by have := L3.len; (first | lia | omega), L3.uds⟩, List.getElem?_eq_getElem hlb, List.getElem?_eq_getElem hlt, ?_⟩
            have := hb2 hlt
            rw [List.getD_eq_getElem?_getD, List.getElem?_eq_getElem hlt] at this
            exact this
        rintro σ G4 ⟨bs', pss', b, q', rfl, L4, hbb, hqq, hql⟩
        -- the key put in, its spot
        obtain ⟨q2, hq2, eb⟩ := L4.pg.at hbb
        rw [hqq] at hq2
        cases hq2
        have hq60 : q'.length ≤ 60 := by
          have h1 := flat_len (List.mem_of_getElem? hqq)
          have h2 := L4.perm.length_eq
          rw [List.length_take] at h2
          (first | lia | omega)
        refine ⟨_, rfl, _, rfl, l, _, _, .ref b, rfl, rfl, .inl (SqL.of L4.el), atI_refs hbb, .inl ⟨rfl, _, SqL.of eb⟩, _, rfl, b, _, _, rfl, rfl, eb, sizeBig (by rw [List.length_map]; (first | lia | omega)), ?_⟩
        have hdb : ds ≠ b := fun z => by have := L4.ed; rw [z, eb] at this; cases this
        have ed5 : upd G4 b (.lst (q'.map V.int ++ [.int y])) ds = some (.dK kvs) := by rw [upd_ne hdb]; exact L4.ed
        have hkl := L4.kl
        rw [List.length_take] at hkl
        refine ⟨_, rfl, _, rfl, _, rfl, ds, _, rfl, .inl ⟨kvs, Sum.inl y, ed5, rfl, sizeBig (by (first | lia | omega)), rfl⟩, ?_⟩
        have L5 := L4.put (y := y) Bd hbb hqq hql
        have hts : xs.take (i + 1) = xs.take i ++ [y] := by rw [List.take_add_one, hy1]; rfl
        rw [← hts] at L5
        exact hN _ _ ⟨_, _, _, _, _, _, rfl, L5⟩
    · rintro σ G0 ⟨z8, z9, z10, bs, pss, kvs, rfl, L⟩
      rw [List.length_map, List.take_length] at L
      apply join (fun σ' H' => ∃ bs pss, σ' = [some (.ref p), some v, some (.ref a), some (.int room), some (.ref du), some (.int sort), some (.ref l), some (.ref ds), z8, z9, z10] ∧ LI p l ds du (rm p H) t room 61 xs bs pss kvs H')
      case h2 =>
        intro hj
        refine ⟨_, rfl, p, 3, rfl, L.pen, by decide, by decide, fun r1 G1 r10 r11 p1' s1' => ?_⟩
        have L1 := L.take Bp hlp s1' p1'
        have hpl := L1.len
        have hbl := L1.pg.len
        refine ⟨_, rfl, ?_⟩
        refine ite2 (fun _ => ?_) (fun _ => hj _ _ ⟨_, _, rfl, ⟨L1.s, L1.pen, L1.eu, L1.el, L1.pg, L1.nd, L1.fr, L1.ed, L1.vals, L1.kl, L1.perm, L1.rmm, by have := L1.len; (first | lia | omega), L1.uds⟩⟩)
        · refine ⟨_, rfl, .inl ⟨rfl, _, SqL.of L1.el⟩, (show 0 ≤ sizeLine by decide), fun b G2 n2' s2' e2' _ => ?_⟩
          refine ⟨l, _, _, rfl, rfl, s2' _ _ L1.el, sizeBig (by rw [List.length_map]; (first | lia | omega)), ?_⟩
          have L2 := L1.more (by (first | lia | omega)) Bl hlp n2' s2' e2'
          exact hj _ _ ⟨_, _, rfl, ⟨L2.s, L2.pen, L2.eu, L2.el, L2.pg, L2.nd, L2.fr, L2.ed, L2.vals, L2.kl, L2.perm, L2.rmm, by have := L2.len; (first | lia | omega), L2.uds⟩⟩
      rintro σ G1 ⟨bs, pss, rfl, L⟩
      have hpl := L.len
      have hbl := L.pg.len
      have hfl := L.perm.length_eq
      refine ⟨_, rfl, _, rfl, l, rfl, .inl ⟨⟨_, SqL.of L.el⟩, fun acc ha => ?_⟩⟩
      have hap' : acc ≠ p := L.pen.ne ha
      have Ba : (rm p H) acc = none := L.s.free ha
      have hal : l ≠ acc := fun z => by have := L.el; rw [z, ha] at this; cases this
      refine comp_list (xs := bs.map V.ref) (fun j ys σ H' => ∃ z cs qs, σ = [z, some (.ref p)] ∧ Same (rm p G1) H' ∧ PenAt H' p ∧ H' acc = some (.lst ys) ∧ ys = cs.map V.ref ∧ Pgs H' cs qs ∧ (∀ c ∈ cs, c ≠ acc ∧ c ≠ p ∧ (rm p H) c = none) ∧ cs.length = j ∧ qs.flatten.Perm (pss.take j).flatten ∧ (∀ q ∈ qs, (q.length : Int) ≤ room))
        ⟨none, [], [], rfl, rm_same.trans (same_new ha), L.pen.mono (same_new ha), upd_same, rfl, trivial, by simp, rfl, List.Perm.refl _, by simp⟩ (fun j ys σ H' hh => by obtain ⟨_, _, _, _, s', _⟩ := hh; exact SqL.of (s' _ _ (by rw [rm_ne hlp]; exact L.el))) ?_ ?_
      · rintro j ys y σ G2 hy hj ⟨z, cs, qs, rfl, s2', p2', e2', rfl, g2', hc2, hcl, pm2, hr2⟩
        rw [List.getElem?_map] at hy
        obtain ⟨b, hb, rfl⟩ := Option.map_eq_some_iff.mp hy
        obtain ⟨q1, hq1, eb⟩ := L.pg.at hb
        obtain ⟨_, hbp, _⟩ := L.fr b (List.mem_of_getElem? hb)
        have hq60 : q1.length ≤ 60 := by
          have := flat_len (List.mem_of_getElem? hq1)
          (first | lia | omega)
        refine ⟨_, rfl, _, rfl, p, b, _, rfl, p2', hbp, s2' _ _ (by rw [rm_ne hbp]; exact eb), by rw [List.length_map]; (first | lia | omega), fun r3 G3 ys3 n3' s3' p3' e3' pm3 => ?_⟩
        obtain ⟨q3, rfl, pmq⟩ := perm_ints pm3
        have hra : r3 ≠ acc := fun z => by rw [z, e2'] at n3'; cases n3'
        have hrp : r3 ≠ p := p2'.ne n3'
        have hrc : r3 ∉ cs := fun z => by
          obtain ⟨_, _, e⟩ := g2'.of z
          rw [n3'] at e; cases e
        have ea3 := rm_look s3' e2' hap'
        rw [List.length_map] at hj
        have hB3 : (rm p H) r3 = none := by
          rw [rm_ne hrp]
          have h1 : G1 r3 = none := p2'.free s2' n3'
          have := L.s.free h1
          rwa [rm_ne hrp] at this
        refine cpost ea3 (sizeBig (by rw [List.length_map]; (first | lia | omega))) (by rw [List.length_map]; exact hj) ?_
        obtain ⟨m3, n3x, ep3⟩ := id p3'
        refine ⟨_, cs ++ [r3], qs ++ [q3], rfl, same_upd (rm_trans s2' s3') (by rw [rm_ne hap']; exact ha), ⟨m3, n3x, by rw [upd_ne hap'.symm]; exact ep3⟩, upd_same, by rw [List.map_append]; rfl, ?_, ?_, by simp [hcl], ?_, ?_⟩
        · refine Pgs.snoc (((g2'.stay (H' := rm p G2) fun c hc => rm_ne (hc2 c hc).2.1).mono s3').stay fun c hc => upd_ne (hc2 c hc).1) ?_
          rw [upd_ne hra]; exact e3'
        · intro c hc
          rcases List.mem_append.mp hc with hc | hc
          · exact hc2 c hc
          · rw [List.mem_singleton] at hc; subst hc; exact ⟨hra, hrp, hB3⟩
        · rw [List.take_add_one, hq1, List.flatten_append, List.flatten_append]
          refine pm2.append ?_
          simpa using pmq
        · intro q hq
          rcases List.mem_append.mp hq with hq | hq
          · exact hr2 q hq
          · rw [List.mem_singleton] at hq; subst hq
            rw [pmq.length_eq]
            exact L.rmm q1 (List.mem_of_getElem? hq1)
      · rintro ys σ G2 ⟨z, cs, qs, rfl, s2', p2', e2', rfl, g2', hc2, hcl, pm2, hr2⟩
        rw [List.length_map] at hcl pm2
        have hql := g2'.len
        refine ⟨p, acc, _, rfl, p2', hap', e2', by rw [List.length_map]; (first | lia | omega), fun r3 G3 ys3 n3' s3' p3' e3' pm3 => ?_⟩
        obtain ⟨cs', rfl, pmc⟩ := perm_refs pm3
        have g3 : Pgs G3 cs qs := (g2'.stay (H' := rm p G2) fun c hc => rm_ne (hc2 c hc).2.1).mono s3'
        obtain ⟨qs', g4, pmqs⟩ := g3.perm pmc
        have hrp : r3 ≠ p := p2'.ne n3'
        have hr3 : H r3 = none := by
          have h1 : G1 r3 = none := p2'.free s2' n3'
          have := L.s.free h1
          rwa [rm_ne hrp] at this
        have hS : Same (rm p H) G3 := rm_trans (rm_trans L.s s2') s3'
        rw [hbl, List.take_length] at pm2
        refine q r3 G3 cs' qs' hr3 hS p3' e3' g4 ((pmqs.flatten).trans (pm2.trans L.perm)) (fun q hq => hr2 q (pmqs.mem_iff.mp hq)) (by rw [pmqs.length_eq]; (first | lia | omega)) fun c hc => ?_
        obtain ⟨_, h2, h3⟩ := hc2 c (pmc.mem_iff.mp hc)
        exact ⟨h2, by rwa [rm_ne h2] at h3⟩
end
end K36
namespace L3
open PySem L2
noncomputable def numN (pss : List (List Int)) : Nat → Int → Option Nat
  | 0, _ => none
  | i + 1, y => if y ∈ pss.getD i [] then some i else numN pss i y
theorem numN_some (pss : List (List Int)) (y : Int) : ∀ i, i ≤ pss.length → ((numN pss i y).isSome = true ↔ y ∈ (pss.take i).flatten)
  | 0, _ => by simp [numN]
  | i + 1, h => by
    have hq : pss[i]? = some pss[i] := List.getElem?_eq_getElem (by (first | lia | omega))
    have ih := numN_some pss y i (by (first | lia | omega))
    rw [numN, List.getD_eq_getElem?_getD, hq, List.take_add_one, hq, List.flatten_append, List.mem_append]
    by_cases hy : y ∈ pss[i]
    · simp [hy]
    · simp only [Option.getD_some, hy, if_false, ih]
      simp [hy]
theorem flat_take_len {pss : List (List Int)} {i : Nat} {q : List Int} (h : pss[i]? = some q) : ((pss.take i).flatten).length + q.length ≤ pss.flatten.length := by
  have e : pss = pss.take i ++ q :: pss.drop (i + 1) := by
    obtain ⟨h1, h2⟩ := List.getElem?_eq_some_iff.mp h
    rw [← h2, List.getElem_cons_drop, List.take_append_drop]
  conv => rhs; rw [e]
  rw [List.flatten_append, List.flatten_cons, List.length_append, List.length_append]; (first | lia | omega)
noncomputable def numP (pss : List (List Int)) (y : Int) : Nat := (numN pss pss.length y).getD 0
theorem numN_in (pss : List (List Int)) (y : Int) : ∀ i n, numN pss i y = some n → n < i ∧ y ∈ pss.getD n []
  | 0, n, h => by simp [numN] at h
  | i + 1, n, h => by
    rw [numN] at h
    by_cases hy : y ∈ pss.getD i []
    · rw [if_pos hy] at h
      cases h
      exact ⟨by (first | lia | omega), hy⟩
    · rw [if_neg hy] at h
      have := numN_in pss y i n h
      exact ⟨by (first | lia | omega), this.2⟩
theorem numP_eq {pss : List (List Int)} {y : Int} (h : y ∈ pss.flatten) : numN pss pss.length y = some (numP pss y) := by
  have := (numN_some pss y pss.length (Nat.le_refl _)).mpr (by rw [List.take_length]; exact h)
  unfold numP
  cases e : numN pss pss.length y with
  | none => rw [e] at this; cases this
  | some n => rfl
theorem numP_lt {pss : List (List Int)} {y : Int} (h : y ∈ pss.flatten) : numP pss y < pss.length ∧ y ∈ pss.getD (numP pss y) [] := numN_in pss y _ _ (numP_eq h)
theorem numP_uniq : ∀ {pss : List (List Int)} {y : Int} {i j : Nat}, pss.flatten.Nodup → y ∈ pss.getD i [] → y ∈ pss.getD j [] → i = j
  | [], _, i, _, _, h, _ => by simp at h
  | q :: r, y, 0, 0, _, _, _ => rfl
  | q :: r, y, 0, j + 1, hn, h1, h2 => by
    exfalso
    rw [List.flatten_cons, List.nodup_append] at hn
    have h1 : y ∈ q := h1
    have h2 : y ∈ r.getD j [] := h2
    refine hn.2.2 y h1 y ?_ rfl
    rw [List.getD_eq_getElem?_getD] at h2
    cases e : r[j]? with
    | none => rw [e] at h2; simp at h2
    | some q' => rw [e] at h2; exact List.mem_flatten.mpr ⟨q', List.mem_of_getElem? e, h2⟩
  | q :: r, y, i + 1, 0, hn, h1, h2 => by
    exfalso
    rw [List.flatten_cons, List.nodup_append] at hn
    have h2 : y ∈ q := h2
    have h1 : y ∈ r.getD i [] := h1
    refine hn.2.2 y h2 y ?_ rfl
    rw [List.getD_eq_getElem?_getD] at h1
    cases e : r[i]? with
    | none => rw [e] at h1; simp at h1
    | some q' => rw [e] at h1; exact List.mem_flatten.mpr ⟨q', List.mem_of_getElem? e, h1⟩
  | q :: r, y, i + 1, j + 1, hn, h1, h2 => by
    rw [List.flatten_cons, List.nodup_append] at hn
    have := numP_uniq (pss := r) (i := i) (j := j) hn.2.1 h1 h2
    (first | lia | omega)
theorem numP_is {pss : List (List Int)} {y : Int} {i : Nat} (hn : pss.flatten.Nodup) (h : y ∈ pss.getD i []) : numP pss y = i := by
  have hm : y ∈ pss.flatten := by
    rw [List.getD_eq_getElem?_getD] at h
    cases e : pss[i]? with
    | none => rw [e] at h; simp at h
    | some q' => rw [e] at h; exact List.mem_flatten.mpr ⟨q', List.mem_of_getElem? e, h⟩
  exact numP_uniq hn (numP_lt hm).2 h
noncomputable def ddS (acc : List Int) (n : Int) : List Int := if n ∈ acc then acc else acc ++ [n]
noncomputable def dd (ws : List Int) : List Int := ws.foldl ddS []
theorem dd_snoc (ws : List Int) (n : Int) : dd (ws ++ [n]) = ddS (dd ws) n := by unfold dd; rw [List.foldl_append]; rfl
theorem snocInd {α : Type} {P : List α → Prop} (h0 : P []) (h1 : ∀ ws m, P ws → P (ws ++ [m])) (ws : List α) : P ws := by
  have : ∀ r : List α, P r.reverse := fun r => by
    induction r with
    | nil => exact h0
    | cons a r ih => rw [List.reverse_cons]; exact h1 _ _ ih
  have := this ws.reverse
  rwa [List.reverse_reverse] at this
theorem dd_mem (n : Int) : ∀ ws : List Int, n ∈ dd ws ↔ n ∈ ws := by
  refine snocInd (by simp [dd]) fun ws m ih => ?_
  · rw [dd_snoc, List.mem_append, List.mem_singleton]
    unfold ddS
    split
    · rename_i h
      constructor
      · intro z; exact .inl (ih.mp z)
      · rintro (z | rfl)
        · exact ih.mpr z
        · exact h
    · rw [List.mem_append, List.mem_singleton, ih]
theorem dd_len (ws : List Int) : (dd ws).length ≤ ws.length := by
  refine snocInd (P := fun ws => (dd ws).length ≤ ws.length) (by simp [dd]) (fun ws m ih => ?_) ws
  · rw [dd_snoc]
    unfold ddS
    split <;> simp <;> (first | lia | omega)
noncomputable def chS (st : Nat × Option Int) (n : Int) : Nat × Option Int := (if st.2 = some n then st.1 else st.1 + 1, some n)
noncomputable def chg (ws : List Int) : Nat × Option Int := ws.foldl chS (0, none)
theorem chg_snoc (ws : List Int) (n : Int) : chg (ws ++ [n]) = chS (chg ws) n := by unfold chg; rw [List.foldl_append]; rfl
theorem chg_last : ∀ ws : List Int, (chg ws).2 = ws.getLast? := by
  refine snocInd rfl fun ws m ih => ?_
  rw [chg_snoc, List.getLast?_append]; rfl
end L3
namespace K36
open PySem L2 L3
noncomputable def plc (pss : List (List Int)) (y : Int) : Nat := (pss.getD (numP pss y) []).idxOf y
noncomputable def topK : Tr → Option Int
  | .nil => none
  | .node _ x _ => some x
noncomputable def spotD (pss : List (List Int)) (y : Int) : D := .tup [.int (numP pss y : Int), .int (plc pss y : Int)]
noncomputable def spotO (pss : List (List Int)) : Option Int → D
  | none => .non
  | some y => spotD pss y
noncomputable def slotD (t : Tr) (pss : List (List Int)) (y : Int) : D := match at_ y t with
  | .node l _ r => .tup [.int y, spotO pss (topK l), spotO pss (topK r)]
  | .nil => .non
noncomputable def rowD (t : Tr) (pss : List (List Int)) (q : List Int) : D := .lst (q.map (slotD t pss))
theorem spotO_pure (pss : List (List Int)) (o : Option Int) : (spotO pss o).pure = true := by cases o <;> rfl
theorem spotO_dep (pss : List (List Int)) (o : Option Int) : (spotO pss o).dep ≤ 1 := by
  cases o with
  | none => exact Nat.zero_le _
  | some y => simp [spotO, spotD, D.dep, deps]
theorem slotD_pure (t : Tr) (pss : List (List Int)) (y : Int) : (slotD t pss y).pure = true := by
  unfold slotD
  split
  · rw [D.pure, pures, pures, spotO_pure, pures, spotO_pure, pures]; rfl
  · rfl
theorem slotD_dep (t : Tr) (pss : List (List Int)) (y : Int) : (slotD t pss y).dep ≤ 2 := by
  unfold slotD
  split
  · rename_i l k r e
    have h1 := spotO_dep pss (topK l)
    have h2 := spotO_dep pss (topK r)
    have h3 : (D.int y).dep = 0 := rfl
    rw [D.dep, deps, deps, deps, deps, h3]; (first | lia | omega)
  · exact Nat.zero_le _
theorem row_pures (t : Tr) (pss : List (List Int)) : ∀ q : List Int, pures (q.map (slotD t pss)) = true
  | [] => rfl
  | y :: q => by rw [List.map_cons, pures, slotD_pure, row_pures t pss q]; rfl
theorem row_deps (t : Tr) (pss : List (List Int)) : ∀ q : List Int, deps (q.map (slotD t pss)) ≤ 2
  | [] => by rw [List.map_nil, deps]; (first | lia | omega)
  | y :: q => by
    have h1 := slotD_dep t pss y
    have h2 := row_deps t pss q
    rw [List.map_cons, deps]; (first | lia | omega)
theorem rows_pures (t : Tr) (pss : List (List Int)) : ∀ qs : List (List Int), pures (qs.map (rowD t pss)) = true
  | [] => rfl
  | q :: qs => by
    have h := row_pures t pss q
    rw [List.map_cons, pures, rows_pures t pss qs, rowD, D.pure, h]; rfl
theorem rows_deps (t : Tr) (pss : List (List Int)) : ∀ qs : List (List Int), deps (qs.map (rowD t pss)) ≤ 3
  | [] => by rw [List.map_nil, deps]; (first | lia | omega)
  | q :: qs => by
    have h1 := row_deps t pss q
    have h2 := rows_deps t pss qs
    rw [List.map_cons, deps, rowD, D.dep]; (first | lia | omega)
noncomputable def SpotAt (H : Hp) (kvs : List (Key × V)) (pss : List (List Int)) (y : Int) : Prop := ∃ b, valV kvs (Sum.inl y : Key) = some (.ref b) ∧ H b = some (.tup [.int (numP pss y : Int), .int (plc pss y : Int)])
theorem SpotAt.mono {H H' : Hp} {kvs : List (Key × V)} {pss : List (List Int)} {y : Int} (h : SpotAt H kvs pss y) (s : Same H H') : SpotAt H' kvs pss y := by
  obtain ⟨b, h1, h2⟩ := h
  exact ⟨b, h1, s _ _ h2⟩
theorem SpotAt.put {H : Hp} {kvs : List (Key × V)} {pss : List (List Int)} {y k : Int} {d : Addr} {o o' : HO} {v : V} (h : SpotAt H kvs pss y) (hd : H d = some (.dK kvs)) (hy : y ≠ k) : SpotAt (upd H d o) (putK kvs (Sum.inl k : Key) v) pss y := by
  obtain ⟨b, h1, h2⟩ := h
  refine ⟨b, by rw [valV_put, if_neg (fun z => hy (Sum.inl.inj z))]; exact h1, ?_⟩
  rw [upd_ne (fun z => by rw [z, hd] at h2; cases h2)]; exact h2
theorem SpotAt.rep {H : Hp} {kvs : List (Key × V)} {pss : List (List Int)} {y : Int} {b : Addr} (h2 : H b = some (.tup [.int (numP pss y : Int), .int (plc pss y : Int)])) : Rep H (.ref b) (spotD pss y) := .tup h2 (.cons (.int _) (.cons (.int _) .nil))
theorem plc_is {pss : List (List Int)} {i j : Nat} {q : List Int} {y : Int} (hn : pss.flatten.Nodup) (hq : pss[i]? = some q) (hy : q[j]? = some y) : numP pss y = i ∧ plc pss y = j := by
  have hm := List.mem_of_getElem? hy
  have hg : pss.getD i [] = q := by rw [List.getD_eq_getElem?_getD, hq]; rfl
  have h1 := numP_is hn (show y ∈ pss.getD i [] by rw [hg]; exact hm)
  refine ⟨h1, ?_⟩
  unfold plc
  rw [h1, hg]
  have hqn : q.Nodup := by
    have hqm := List.mem_of_getElem? hq
    rw [List.Nodup, List.pairwise_flatten] at hn
    exact hn.1 q hqm
  have hil : q.idxOf y < q.length := List.idxOf_lt_length_iff.mpr hm
  have e : q[q.idxOf y]? = q[j]? := by rw [hy, List.getElem?_eq_getElem hil, List.getElem_idxOf]
  exact (List.getElem?_inj hil hqn).mp e
theorem top_in {l r : Tr} {k : Int} {t : Tr} (e : at_ k t = .node l k r) : (∀ y, topK l = some y → y ∈ t.keys) ∧ ∀ y, topK r = some y → y ∈ t.keys := by
  have hs := at_sub k t
  rw [e] at hs
  constructor
  · intro y hy
    cases l with
    | nil => cases hy
    | node a x b => cases hy; exact hs _ (by simp [Tr.keys])
  · intro y hy
    cases r with
    | nil => cases hy
    | node a x b => cases hy; exact hs _ (by simp [Tr.keys])
noncomputable def spSide : Sp := fun vs H Q _ => ∃ (a : Addr) (vl vr : V) (x k : Int), vs = [.ref a, .int k] ∧ H a = some (.tup [vl, .int x, vr]) ∧ Q (if k < x then vl else vr) H
noncomputable def spAt : Sp := fun vs H Q _ => ∃ (v : V) (t : Tr) (k : Int), vs = [v, .int k] ∧ Rep H v t.d ∧ ∀ v', Rep H v' (at_ k t).d → Q v' H
noncomputable def spSpots : Sp := fun vs H Q _ => ∃ (a : Addr) (bs : List Addr) (pss : List (List Int)), vs = [.ref a] ∧ H a = some (.lst (bs.map V.ref)) ∧ Pgs H bs pss ∧ pss.flatten.Nodup ∧ pss.flatten.length ≤ 1000 ∧ ∀ r H' kvs, H r = none → Same H H' → H' r = some (.dK kvs) → (∀ y ∈ pss.flatten, SpotAt H' kvs pss y) → Q (.ref r) H'
noncomputable def spSpotOf : Sp := fun vs H Q _ => ∃ (v : V) (t : Tr) (d : Addr) (kvs : List (Key × V)) (pss : List (List Int)), vs = [v, .ref d] ∧ Rep H v (Tr.d t) ∧ H d = some (.dK kvs) ∧ (∀ y ∈ pss.flatten, SpotAt H kvs pss y) ∧ (∀ y, topK t = some y → y ∈ pss.flatten) ∧ ∀ v', Rep H v' (spotO pss (topK t)) → Q v' H
noncomputable def spSlotOf : Sp := fun vs H Q _ => ∃ (v : V) (t : Tr) (k : Int) (d : Addr) (kvs : List (Key × V)) (pss : List (List Int)), vs = [v, .int k, .ref d] ∧ Rep H v (Tr.d t) ∧ t.ord none none ∧ k ∈ t.keys ∧ H d = some (.dK kvs) ∧ (∀ y ∈ pss.flatten, SpotAt H kvs pss y) ∧ (∀ y ∈ t.keys, y ∈ pss.flatten) ∧ ∀ v' H', Same H H' → Rep H' v' (slotD t pss k) → Q v' H'
noncomputable def spSlotsOf : Sp := fun vs H Q _ => ∃ (v : V) (t : Tr) (a : Addr) (q : List Int) (d : Addr) (kvs : List (Key × V)) (pss : List (List Int)), vs = [v, .ref a, .ref d] ∧ Rep H v (Tr.d t) ∧ t.ord none none ∧ H a = some (.lst (q.map V.int)) ∧ (∀ y ∈ q, y ∈ t.keys) ∧ q.length ≤ 1000 ∧ H d = some (.dK kvs) ∧ (∀ y ∈ pss.flatten, SpotAt H kvs pss y) ∧ (∀ y ∈ t.keys, y ∈ pss.flatten) ∧ ∀ r H' vs', H r = none → Same H H' → H' r = some (.lst vs') → Reps H' vs' (q.map (slotD t pss)) → Q (.ref r) H'
noncomputable def Rws (t : Tr) (pss : List (List Int)) (H : Hp) : List Addr → List (List Int) → Prop
  | [], [] => True
  | b :: bs, q :: qs => (∃ vs, H b = some (.lst vs) ∧ Reps H vs (q.map (slotD t pss))) ∧ Rws t pss H bs qs
  | _, _ => False
theorem Rws.mono {t : Tr} {pss : List (List Int)} {H H' : Hp} (s : Same H H') : ∀ {bs : List Addr} {qs : List (List Int)}, Rws t pss H bs qs → Rws t pss H' bs qs
  | [], [], _ => trivial
  | b :: bs, q :: qs, h => by
    obtain ⟨⟨vs, h1, h2⟩, h3⟩ := h
    exact ⟨⟨vs, s _ _ h1, h2.mono s⟩, Rws.mono s h3⟩
  | [], _ :: _, h => h.elim
  | _ :: _, [], h => h.elim
theorem Rws.len {t : Tr} {pss : List (List Int)} {H : Hp} : ∀ {bs : List Addr} {qs : List (List Int)}, Rws t pss H bs qs → bs.length = qs.length
  | [], [], _ => rfl
  | b :: bs, q :: qs, h => by simp [Rws.len h.2]
  | [], _ :: _, h => h.elim
  | _ :: _, [], h => h.elim
theorem Rws.snoc {t : Tr} {pss : List (List Int)} {H : Hp} {b : Addr} {q : List Int} (hb : ∃ vs, H b = some (.lst vs) ∧ Reps H vs (q.map (slotD t pss))) : ∀ {bs : List Addr} {qs : List (List Int)}, Rws t pss H bs qs → Rws t pss H (bs ++ [b]) (qs ++ [q])
  | [], [], _ => ⟨hb, trivial⟩
  | c :: bs, p :: qs, h => ⟨h.1, Rws.snoc hb h.2⟩
  | [], _ :: _, h => h.elim
  | _ :: _, [], h => h.elim
theorem Rws.reps {t : Tr} {pss : List (List Int)} {H : Hp} : ∀ {bs : List Addr} {qs : List (List Int)}, Rws t pss H bs qs → Reps H (bs.map V.ref) (qs.map (rowD t pss))
  | [], [], _ => .nil
  | b :: bs, q :: qs, h => by
    obtain ⟨⟨vs, h1, h2⟩, h3⟩ := h
    exact .cons (.lst h1 h2) (Rws.reps h3)
  | [], _ :: _, h => h.elim
  | _ :: _, [], h => h.elim
theorem spot_rm {H : Hp} {l : Addr} {ws : List V} (hl : H l = some (.lst ws)) {pss : List (List Int)} {o : Option Int} {v : V} (h : Rep H v (spotO pss o)) : Rep (rm l H) v (spotO pss o) := by
  cases o with
  | none => cases h; exact .non
  | some y =>
    obtain ⟨b, vs, rfl, e, rs⟩ := rep_tup h
    have hb : b ≠ l := fun z => by rw [z, hl] at e; cases e
    cases rs with
    | cons h1 r1 =>
      cases r1 with
      | cons h2 r2 =>
        cases r2; cases h1; cases h2
        exact .tup (by rw [rm_ne hb]; exact e) (.cons (.int _) (.cons (.int _) .nil))
theorem slot_rm {H : Hp} {l : Addr} {ws : List V} (hl : H l = some (.lst ws)) {t : Tr} {pss : List (List Int)} {y : Int} {v : V} (h : Rep H v (slotD t pss y)) : Rep (rm l H) v (slotD t pss y) := by
  unfold slotD at h ⊢
  split at h
  · obtain ⟨b, vs, rfl, e, rs⟩ := rep_tup h
    have hb : b ≠ l := fun z => by rw [z, hl] at e; cases e
    cases rs with
    | cons h1 r1 =>
      cases r1 with
      | cons h2 r2 =>
        cases r2 with
        | cons h3 r3 =>
          cases r3; cases h1
          exact .tup (by rw [rm_ne hb]; exact e) (.cons (.int _) (.cons (spot_rm hl h2) (.cons (spot_rm hl h3) .nil)))
  · cases h; exact .non
theorem slots_rm {H : Hp} {l : Addr} {ws : List V} (hl : H l = some (.lst ws)) {t : Tr} {pss : List (List Int)} : ∀ {q : List Int} {vs : List V}, Reps H vs (q.map (slotD t pss)) → Reps (rm l H) vs (q.map (slotD t pss))
  | [], _, h => by cases h; exact .nil
  | y :: q, _, h => by
    cases h with
    | cons h1 h2 => exact .cons (slot_rm hl h1) (slots_rm hl h2)
theorem Rws.upd {t : Tr} {pss : List (List Int)} {H : Hp} {l : Addr} {ws : List V} {o : HO} (hl : H l = some (.lst ws)) : ∀ {bs : List Addr} {qs : List (List Int)}, Rws t pss H bs qs → (∀ b ∈ bs, b ≠ l) → Rws t pss (L2.upd H l o) bs qs
  | [], [], _, _ => trivial
  | b :: bs, q :: qs, h, hb => by
    obtain ⟨⟨vs, h1, h2⟩, h3⟩ := h
    refine ⟨⟨vs, by rw [upd_ne (hb b (by simp))]; exact h1, (slots_rm hl h2).mono (same_upd rm_same rm_self)⟩, Rws.upd hl h3 fun c hc => hb c (by simp [hc])⟩
  | [], _ :: _, h, _ => h.elim
  | _ :: _, [], h, _ => h.elim
noncomputable def spStored : Sp := fun vs H Q _ => ∃ (v : V) (t : Tr) (a : Addr) (bs : List Addr) (pss : List (List Int)), vs = [v, .ref a] ∧ Rep H v (Tr.d t) ∧ t.ord none none ∧ H a = some (.lst (bs.map V.ref)) ∧ Pgs H bs pss ∧ pss.flatten.Nodup ∧ pss.flatten.length ≤ 1000 ∧ pss.length ≤ 1000 ∧ (∀ y, y ∈ t.keys ↔ y ∈ pss.flatten) ∧
  ∀ (r l : Addr) (rs : List Addr) (tv : V) (H' : Hp), H r = none → Same H H' → H' r = some (.tup [tv, .ref l]) → Rep H' tv (spotO pss (topK t)) → H' l = some (.lst (rs.map V.ref)) → Rws t pss H' rs pss → rs.Nodup → (∀ b ∈ rs, H b = none ∧ b ≠ l) → H l = none → Q (.ref r) H'
section
variable {P : Program} {w : World} {K : PySem.W.Frag} {mg : Str → Option Value} {base : Heap}
theorem ok_side {f : Addr} (F : Fd K mg "side_towards" s_side_towards f) (T : Tx K mg) : Cal P w K mg base CX0 1 "side_towards" spSide := by
  refine F.cal sc_side_towards (fun _ _ _ _ _ _ us hl => L3.bind2 (fun _ _ => rfl) us hl) (fun vs H Q E h => ?_) (fun cdv A outer s H vs Q E hr h => ?_)
  · obtain ⟨a, vl, vr, x, k, rfl, _⟩ := h; rfl
  · obtain ⟨a, vl, vr, x, k, rfl, ea, q⟩ := h
    refine ⟨_, (bone (sret (qif (tcmp rLt (qv 1) (qix (xIx K) (qv 0) qint (fun _ _ => rfl)) (nomark _)) (qix (xIx K) (qv 0) qint (fun _ _ => rfl)) (qix (xIx K) (qv 0) qint (fun _ _ => rfl))))), ?_⟩
    refine ⟨_, rfl, _, rfl, a, _, 1, _, rfl, rfl, .inr (SqT.of ea), atI_nat (j := 1) rfl, _, _, rfl, rfl, _, rfl, ?_⟩
    refine ite2 (fun h => ?_) (fun h => ?_)
    · have h : k < x := of_decide_eq_true h
      rw [if_pos h] at q
      exact ⟨_, rfl, a, _, 0, _, rfl, rfl, .inr (SqT.of ea), atI_nat (j := 0) rfl, q⟩
    · have h : ¬ k < x := fun z => h (decide_eq_true z)
      rw [if_neg h] at q
      exact ⟨_, rfl, a, _, 2, _, rfl, rfl, .inr (SqT.of ea), atI_nat (j := 2) rfl, q⟩
theorem ok_at {f : Addr} (F : Fd K mg "knot_at" s_knot_at f) (T : Tx K mg) (C_side_towards : Cal P w K mg base CX0 1 "side_towards" spSide) : Cal P w K mg base CX0 2 "knot_at" spAt := by
  refine F.cal sc_knot_at (fun _ _ _ _ _ _ us hl => L3.bind2 (fun _ _ => rfl) us hl) (fun vs H Q E h => ?_) (fun cdv A outer s H vs Q E hr h => ?_)
  · obtain ⟨v, t, k, rfl, _⟩ := h; rfl
  · obtain ⟨v, t, k, rfl, hv, q⟩ := h
    refine ⟨_, (bcons (swhile PassesOwn.never (QW.tst (wand (tcmp rIsNot (qv 0) qnon (nomark _)) (wand1 (tcmp (rNeq hr) (qix (xIx K) (qv 0) qint (fun _ _ => rfl)) (qv 1) (nomark _)))))
        (bone (sset (i := 0) sc_knot_at.nd rfl (by first | exact Or.inl rfl | exact Or.inr rfl) (qF C_side_towards (hr.mono (by (first | lia | omega))) pass0 rfl (qcons (qv 0) (qcons (qv 1) qnil))))))
      (bone (sret (qv 0)))), ?_⟩
    refine ⟨fun m σ H' => ∃ (v' : V) (t' : Tr), σ = [some v', some (.int k)] ∧ H' = H ∧ Rep H v' t'.d ∧ at_ k t' = at_ k t ∧ m = t'.ht, ⟨_, v, t, rfl, rfl, hv, rfl, rfl⟩, ?_⟩
    rintro m σ H1 ⟨v', t', rfl, rfl, hv', hat, rfl⟩
    cases t' with
    | nil =>
      cases rep_nil hv'
      refine ⟨_, rfl, rfl, _, rfl, ?_⟩
      refine ⟨_, rfl, q .non ?_⟩
      rw [← hat]; exact .non
    | node l x r =>
      obtain ⟨a, vl, vr, rfl, ea, hl, hr'⟩ := rep_node hv'
      refine ⟨_, rfl, rfl, _, rfl, ?_⟩
      refine iteT ?_
      refine ⟨_, rfl, a, _, 1, _, rfl, rfl, .inr (SqT.of ea), atI_nat (j := 1) rfl, _, rfl, _, rfl, ?_⟩
      by_cases hx : x = k
      · rw [decide_eq_true hx]
        refine iteF ?_
        refine ⟨_, rfl, q _ ?_⟩
        rw [← hat, at_, if_pos hx]; exact hv'
      · rw [decide_eq_false hx]
        refine iteT ?_
        refine ⟨fun σ' H' => ∃ m', m' < (Tr.node l x r).ht ∧ ∃ (v' : V) (t' : Tr), σ' = [some v', some (.int k)] ∧ H' = H1 ∧ Rep H1 v' t'.d ∧ at_ k t' = at_ k t ∧ m' = t'.ht, fun _ _ z => z, ?_⟩
        refine ⟨_, rfl, _, rfl, a, vl, vr, x, k, rfl, ea, ?_⟩
        have hv2 : Rep H1 (if k < x then vl else vr) (if k < x then l else r).d := by
          by_cases hk : k < x
          · rw [if_pos hk, if_pos hk]; exact hl
          · rw [if_neg hk, if_neg hk]; exact hr'
        refine ⟨_, ?_, _, _, rfl, rfl, hv2, ?_, rfl⟩
        · rw [Tr.ht]; split <;> (first | lia | omega)
        · rw [← hat]
          conv => rhs; rw [at_, if_neg hx]
          split <;> rfl
theorem ok_spots {f : Addr} (F : Fd K mg "spots_by_key" s_spots_by_key f) (T : Tx K mg) : Cal P w K mg base CX0 1 "spots_by_key" spSpots := by
  refine F.cal sc_spots_by_key (fun _ _ _ _ _ _ us hl => L3.bind1 (fun _ => rfl) us hl) (fun vs H Q E h => ?_) (fun cdv A outer s H vs Q E hr h => ?_)
  · obtain ⟨a, bs, pss, rfl, _⟩ := h; rfl
  · obtain ⟨a, bs, pss, rfl, ea, hg, hnd, hl, q⟩ := h
    have hgl := hg.len
    refine ⟨_, (bcons (sset (i := 1) sc_spots_by_key.nd rfl (by first | exact Or.inl rfl | exact Or.inr rfl) qdict)
      (bcons (sfor PassesOwn.never rfl (ienum K rfl T.b_enumerate (qcons (qv 0) qnil)) (gtup (n := 2) K rfl (gscons (gname (i := 2) sc_spots_by_key.nd rfl (by first | exact Or.inl rfl | exact Or.inr rfl)) (gscons (gname (i := 3) sc_spots_by_key.nd rfl (by first | exact Or.inl rfl | exact Or.inr rfl)) gsnil)))
        (bone (sfor PassesOwn.never rfl (ienum K rfl T.b_enumerate (qcons (qv 3) qnil)) (gtup (n := 2) K rfl (gscons (gname (i := 4) sc_spots_by_key.nd rfl (by first | exact Or.inl rfl | exact Or.inr rfl)) (gscons (gname (i := 5) sc_spots_by_key.nd rfl (by first | exact Or.inl rfl | exact Or.inr rfl)) gsnil)))
          (bone (sdput hr (qv 1) (qv 5) (qtup (qcons (qv 2) (qcons (qv 4) qnil))) rfl)))))
      (bone (sret (qv 1))))), ?_⟩
    refine fun d H1 n1 s1 e1 _ => ?_
    refine ⟨_, rfl, a, _, rfl, s1 _ _ ea, for_enum (xs := bs.map V.ref) (fun i σ H' => ∃ z1 z2 z3 z4 kvs, σ = [some (.ref a), some (.ref d), z1, z2, z3, z4] ∧ Same H H' ∧ H' d = some (.dK kvs) ∧ kvs.length ≤ (pss.take i).flatten.length ∧ ∀ y ∈ (pss.take i).flatten, SpotAt H' kvs pss y) ⟨none, none, none, none, [], rfl, s1, e1, Nat.zero_le _, fun y hy => by simp at hy⟩ (fun i σ H' _ hh => by obtain ⟨_, _, _, _, _, _, s', _⟩ := hh; exact s' _ _ ea) ?_ ?_⟩
    · rintro i x σ H2 T1 hx ⟨z1, z2, z3, z4, kvs, rfl, s2, e2, hk2, hv2⟩ hT
      rw [List.getElem?_map] at hx
      obtain ⟨b, hbx, rfl⟩ := Option.map_eq_some_iff.mp hx
      obtain ⟨qi, hqi, eb⟩ := hg.at hbx
      have hfl := flat_take_len hqi
      have hdT : d ≠ T1 := fun z => by rw [z, hT] at e2; cases e2
      refine ⟨T1, _, rfl, SqT.of upd_same, rfl, _, _, rfl, _, _, rfl, rfl, ?_⟩
      have s23 : Same H2 (upd H2 T1 (.tup [.int i, .ref b])) := same_new hT
      have s3 : Same H (upd H2 T1 (.tup [.int i, .ref b])) := s2.trans s23
      have e3 : upd H2 T1 (.tup [.int i, .ref b]) d = some (.dK kvs) := by rw [upd_ne hdT]; exact e2
      have hv3 : ∀ y ∈ (pss.take i).flatten, SpotAt (upd H2 T1 (.tup [.int i, .ref b])) kvs pss y := fun y hy => (hv2 y hy).mono s23
      generalize upd H2 T1 (.tup [.int i, .ref b]) = H3 at *
      refine ⟨_, rfl, b, _, rfl, s3 _ _ eb, for_enum (xs := qi.map V.int) (fun j σ H' => ∃ z3 z4 kvs, σ = [some (.ref a), some (.ref d), some (.int (i : Int)), some (.ref b), z3, z4] ∧ Same H H' ∧ H' d = some (.dK kvs) ∧ kvs.length ≤ (pss.take i).flatten.length + j ∧ ∀ y ∈ (pss.take i).flatten ++ qi.take j, SpotAt H' kvs pss y) ⟨z3, z4, kvs, rfl, s3, e3, by (first | lia | omega), by simpa using hv3⟩ (fun j σ H' _ hh => by obtain ⟨_, _, _, _, s', _⟩ := hh; exact s' _ _ eb) ?_ ?_⟩
      · rintro j y σ H4 T2 hy ⟨w3, w4, kvs4, rfl, s4, e4, hk4, hv4⟩ hT2
        rw [List.getElem?_map] at hy
        obtain ⟨k, hk, rfl⟩ := Option.map_eq_some_iff.mp hy
        have hjl := (List.getElem?_eq_some_iff.mp hk).1
        have hdT2 : d ≠ T2 := fun z => by rw [z, hT2] at e4; cases e4
        obtain ⟨hnum, hplc⟩ := plc_is hnd hqi hk
        refine ⟨T2, _, rfl, SqT.of upd_same, rfl, _, _, rfl, _, _, rfl, rfl, ?_⟩
        have s45 : Same H4 (upd H4 T2 (.tup [.int j, .int k])) := same_new hT2
        have e5 : upd H4 T2 (.tup [.int j, .int k]) d = some (.dK kvs4) := by rw [upd_ne hdT2]; exact e4
        generalize upd H4 T2 (.tup [.int j, .int k]) = H5 at *
        refine ⟨_, rfl, _, rfl, (show 2 ≤ sizeLine by decide), fun b6 H6 n6 s6 e6 _ => ?_⟩
        have s46 := s45.trans s6
        have hdb : b6 ≠ d := fun z => by rw [z, e5] at n6; cases n6
        refine ⟨_, rfl, _, rfl, d, _, rfl, .inl ⟨kvs4, Sum.inl k, s6 _ _ e5, rfl, sizeBig (by (first | lia | omega)), rfl⟩, ?_⟩
        refine ⟨_, _, putK kvs4 (Sum.inl k : Key) (.ref b6), rfl, same_upd (s4.trans s46) n1, upd_same, ?_, fun y hy => ?_⟩
        · have := length_putK kvs4 (Sum.inl k : Key) (.ref b6); (first | lia | omega)
        · by_cases hyk : y = k
          · subst hyk
            refine ⟨b6, by rw [valV_put, if_pos rfl], ?_⟩
            rw [upd_ne hdb, hnum, hplc]; exact e6
          · have hy' : y ∈ (pss.take i).flatten ++ qi.take j := by
              rw [List.take_add_one, hk, ← List.append_assoc] at hy
              rcases List.mem_append.mp hy with h | h
              · exact h
              · simp at h; exact absurd h hyk
            exact ((hv4 y hy').mono s46).put (o' := .lst []) (s6 _ _ e5) hyk
      · rintro σ H4 ⟨w3, w4, kvs4, rfl, s4, e4, hk4, hv4⟩
        rw [List.length_map] at hk4 hv4
        rw [List.take_length] at hv4
        have htk : (pss.take (i + 1)).flatten = (pss.take i).flatten ++ qi := by rw [List.take_add_one, hqi, List.flatten_append]; simp
        exact ⟨_, _, _, _, kvs4, rfl, s4, e4, by rw [htk, List.length_append]; exact hk4, by rw [htk]; exact hv4⟩
    · rintro σ H2 ⟨z1, z2, z3, z4, kvs, rfl, s2, e2, hk2, hv2⟩
      rw [List.length_map, hgl, List.take_length] at hv2
      exact ⟨_, rfl, q d H2 kvs n1 s2 e2 hv2⟩
theorem ok_spotOf {f : Addr} (F : Fd K mg "spot_of" s_spot_of f) (T : Tx K mg) : Cal P w K mg base CX0 1 "spot_of" spSpotOf := by
  refine F.cal sc_spot_of (fun _ _ _ _ _ _ us hl => L3.bind2 (fun _ _ => rfl) us hl) (fun vs H Q E h => ?_) (fun cdv A outer s H vs Q E hr h => ?_)
  · obtain ⟨v, t, d, kvs, pss, rfl, _⟩ := h; rfl
  · obtain ⟨v, t, d, kvs, pss, rfl, hv, ed, hs, htop, q⟩ := h
    refine ⟨_, (bone (sret (qif (tcmp rIs (qv 0) qnon (nomark _)) qnon (qdget hr (qv 1) (qix (xIx K) (qv 0) qint (fun _ _ => rfl)) (fun _ _ => rfl))))), ?_⟩
    cases t with
    | nil =>
      cases rep_nil hv
      exact ⟨_, rfl, rfl, _, rfl, q .non .non⟩
    | node l x r =>
      obtain ⟨a, vl, vr, rfl, ea, hl, hr'⟩ := rep_node hv
      refine ⟨_, rfl, rfl, _, rfl, ?_⟩
      refine iteF ?_
      obtain ⟨b, h1, h2⟩ := hs x (htop x rfl)
      refine ⟨_, rfl, _, rfl, a, _, 1, _, rfl, rfl, .inr (SqT.of ea), atI_nat (j := 1) rfl, d, _, rfl, .inl ⟨kvs, Sum.inl x, .inl ed, rfl, h1.symm⟩, ?_⟩
      exact q _ (SpotAt.rep (kvs := kvs) h2)
theorem ok_slotOf {f : Addr} (F : Fd K mg "slot_of" s_slot_of f) (T : Tx K mg) (C_knot_at : Cal P w K mg base CX0 2 "knot_at" spAt) (C_spot_of : Cal P w K mg base CX0 1 "spot_of" spSpotOf) : Cal P w K mg base CX0 3 "slot_of" spSlotOf := by
  refine F.cal sc_slot_of (fun _ _ _ _ _ _ us hl => L3.bind3 (fun _ _ _ => rfl) us hl) (fun vs H Q E h => ?_) (fun cdv A outer s H vs Q E hr h => ?_)
  · obtain ⟨v, t, k, d, kvs, pss, rfl, _⟩ := h; rfl
  · obtain ⟨v, t, k, d, kvs, pss, rfl, hv, ho, hk, ed, hs, hkf, q⟩ := h
    obtain ⟨l, r, hat⟩ := at_node k t _ _ ho hk
    obtain ⟨ht1, ht2⟩ := top_in hat
    refine ⟨_, (bcons (sset (i := 3) sc_slot_of.nd rfl (by first | exact Or.inl rfl | exact Or.inr rfl) (qF C_knot_at (hr.mono (by (first | lia | omega))) pass0 rfl (qcons (qv 0) (qcons (qv 1) qnil))))
      (bone (sret (qtup (qcons (qv 1) (qcons (qF C_spot_of (hr.mono (by (first | lia | omega))) pass0 rfl (qcons (qix (xIx K) (qv 3) qint (fun _ _ => rfl)) (qcons (qv 2) qnil))) (qcons (qF C_spot_of (hr.mono (by (first | lia | omega))) pass0 rfl (qcons (qix (xIx K) (qv 3) qint (fun _ _ => rfl)) (qcons (qv 2) qnil))) qnil))))))), ?_⟩
    refine ⟨_, rfl, _, rfl, v, t, k, rfl, hv, fun v' hv' => ?_⟩
    rw [hat] at hv'
    obtain ⟨a, vl, vr, rfl, ea, hl, hr'⟩ := rep_node hv'
    refine ⟨_, rfl, _, rfl, a, _, 0, _, rfl, rfl, .inr (SqT.of ea), atI_nat (j := 0) rfl, _, rfl, vl, l, d, kvs, pss, rfl, hl, ed, hs, fun y hy => hkf y (ht1 y hy), fun v1 g1 => ?_⟩
    refine ⟨_, rfl, a, _, 2, _, rfl, rfl, .inr (SqT.of ea), atI_nat (j := 2) rfl, _, rfl, vr, r, d, kvs, pss, rfl, hr', ed, hs, fun y hy => hkf y (ht2 y hy), fun v2 g2 => ?_⟩
    refine ⟨(show 3 ≤ sizeLine by decide), fun b3 H3 n3 s3 e3 _ => ?_⟩
    refine q _ H3 s3 ?_
    unfold slotD
    rw [hat]
    exact .tup e3 (.cons (.int _) (.cons (g1.mono s3) (.cons (g2.mono s3) .nil)))
theorem ok_slotsOf {f : Addr} (F : Fd K mg "slots_of" s_slots_of f) (T : Tx K mg) (C_slot_of : Cal P w K mg base CX0 3 "slot_of" spSlotOf) : Cal P w K mg base CX0 4 "slots_of" spSlotsOf := by
  refine F.cal sc_slots_of (fun _ _ _ _ _ _ us hl => L3.bind3 (fun _ _ _ => rfl) us hl) (fun vs H Q E h => ?_) (fun cdv A outer s H vs Q E hr h => ?_)
  · obtain ⟨v, t, a, q, d, kvs, pss, rfl, _⟩ := h; rfl
  · obtain ⟨v, t, a, qs, d, kvs, pss, rfl, hv, ho, ea, hqk, hql, ed, hs, hkf, q⟩ := h
    refine ⟨_, (bone (sret (qcomp (sc := defScope s_slots_of) (NX := ["tree", "page", "spots"]) ["key", "tree", "spots"] [none, some 0, some 2] rfl (iseq K (qv 1)) (fun _ _ _ => (gname (i := 0) (show (["key", "tree", "spots"] : List Str).Nodup by decide +kernel) rfl (by first | exact Or.inl rfl | exact Or.inr rfl))) (fun _ _ _ => csnil) (fun _ _ _ => (qF C_slot_of (hr.mono (by (first | lia | omega))) pass0 rfl (qcons (qv 1) (qcons (qv 0) (qcons (qv 2) qnil))))) rfl rfl (by decide +kernel)))), ?_⟩
    refine ⟨_, rfl, a, rfl, .inl ⟨⟨_, SqL.of ea⟩, fun acc ha => ?_⟩⟩
    refine comp_list (xs := qs.map V.int) (fun i ys σ H' => ∃ z, σ = [z, some v, some (.ref d)] ∧ Same H H' ∧ H' acc = some (.lst ys) ∧ ys.length = i ∧ Reps H' ys ((qs.take i).map (slotD t pss))) ⟨none, rfl, same_new ha, upd_same, rfl, .nil⟩ (fun i ys σ H' hh => by obtain ⟨_, _, s', _⟩ := hh; exact SqL.of (s' _ _ ea)) ?_ ?_
    · rintro i ys y σ H2 hy hi ⟨z, rfl, s2, e2, hyl, g2⟩
      rw [List.getElem?_map] at hy
      obtain ⟨n, hn, rfl⟩ := Option.map_eq_some_iff.mp hy
      rw [List.length_map] at hi
      refine ⟨_, rfl, _, rfl, _, rfl, v, t, n, d, kvs, pss, rfl, hv.mono s2, ho, hqk n (List.mem_of_getElem? hn), s2 _ _ ed, fun y hy => (hs y hy).mono s2, hkf, fun v3 H3 s3 g3 => ?_⟩
      have e3 := s3 _ _ e2
      refine cpost e3 (sizeBig (by (first | lia | omega))) (by rw [List.length_map]; exact hi) ?_
      refine ⟨_, rfl, same_upd (s2.trans s3) ha, upd_same, by simp [hyl], ?_⟩
      rw [List.take_add_one, hn, List.map_append]
      have su : Same (rm acc H3) (upd H3 acc (.lst (ys ++ [v3]))) := same_upd rm_same rm_self
      exact ((slots_rm e3 (g2.mono s3)).mono su).append (.cons ((slot_rm e3 g3).mono su) .nil)
    · rintro ys σ H2 ⟨z, rfl, s2, e2, hyl, g2⟩
      rw [List.length_map, List.take_length] at g2
      exact q acc H2 ys ha s2 e2 g2
theorem ok_stored {f : Addr} (F : Fd K mg "stored" s_stored f) (T : Tx K mg) (C_spots_by_key : Cal P w K mg base CX0 1 "spots_by_key" spSpots) (C_spot_of : Cal P w K mg base CX0 1 "spot_of" spSpotOf) (C_slots_of : Cal P w K mg base CX0 4 "slots_of" spSlotsOf) : Cal P w K mg base CX0 5 "stored" spStored := by
  refine F.cal sc_stored (fun _ _ _ _ _ _ us hl => L3.bind2 (fun _ _ => rfl) us hl) (fun vs H Q E h => ?_) (fun cdv A outer s H vs Q E hr h => ?_)
  · obtain ⟨v, t, a, bs, pss, rfl, _⟩ := h; rfl
  · obtain ⟨v, t, a, bs, pss, rfl, hv, ho, ea, hg, hnd, hl, hpl, hkf, q⟩ := h
    have hgl := hg.len
    refine ⟨_, (bcons (sset (i := 2) sc_stored.nd rfl (by first | exact Or.inl rfl | exact Or.inr rfl) (qF C_spots_by_key (hr.mono (by (first | lia | omega))) pass0 rfl (qcons (qv 1) qnil)))
      (bone (sret (qtup (qcons (qF C_spot_of (hr.mono (by (first | lia | omega))) pass0 rfl (qcons (qv 0) (qcons (qv 2) qnil))) (qcons (qcomp (sc := defScope s_stored) (NX := ["tree", "layout", "spots"]) ["page", "tree", "spots"] [none, some 0, some 2] rfl (iseq K (qv 1)) (fun _ _ _ => (gname (i := 0) (show (["page", "tree", "spots"] : List Str).Nodup by decide +kernel) rfl (by first | exact Or.inl rfl | exact Or.inr rfl))) (fun _ _ _ => csnil) (fun _ _ _ => (qF C_slots_of (hr.mono (by (first | lia | omega))) pass0 rfl (qcons (qv 1) (qcons (qv 0) (qcons (qv 2) qnil))))) rfl rfl (by decide +kernel)) qnil)))))), ?_⟩
    refine ⟨_, rfl, a, bs, pss, rfl, ea, hg, hnd, hl, fun d H1 kvs n1 s1 e1 hs1 => ?_⟩
    have htop : ∀ y, topK t = some y → y ∈ pss.flatten := fun y hy => by
      cases t with
      | nil => cases hy
      | node l x r => cases hy; exact (hkf _).mp (by simp [Tr.keys])
    refine ⟨_, rfl, _, rfl, v, t, d, kvs, pss, rfl, hv.mono s1, e1, hs1, htop, fun tv g1 => ?_⟩
    refine ⟨_, rfl, a, rfl, .inl ⟨⟨_, SqL.of (s1 _ _ ea)⟩, fun acc ha => ?_⟩⟩
    refine comp_list (xs := bs.map V.ref) (fun i ys σ H' => ∃ z cs, σ = [z, some v, some (.ref d)] ∧ Same H1 H' ∧ H' acc = some (.lst ys) ∧ ys = cs.map V.ref ∧ cs.length = i ∧ cs.Nodup ∧ (∀ c ∈ cs, c ≠ acc ∧ H1 c = none) ∧ Rws t pss H' cs (pss.take i)) ⟨none, [], rfl, same_new ha, upd_same, rfl, rfl, List.nodup_nil, by simp, by simp; exact trivial⟩ (fun i ys σ H' hh => by obtain ⟨_, _, _, s', _⟩ := hh; exact SqL.of (s' _ _ (s1 _ _ ea))) ?_ ?_
    · rintro i ys y σ H2 hy hi ⟨z, cs, rfl, s2, e2, rfl, hcl, hcn, hca, g2⟩
      rw [List.getElem?_map] at hy
      obtain ⟨b, hb, rfl⟩ := Option.map_eq_some_iff.mp hy
      obtain ⟨qi, hqi, eb⟩ := hg.at hb
      rw [List.length_map] at hi
      have hqm := List.mem_of_getElem? hqi
      have hql := flat_len hqm
      have s02 := s1.trans s2
      refine ⟨_, rfl, _, rfl, _, rfl, v, t, b, qi, d, kvs, pss, rfl, hv.mono s02, ho, s02 _ _ eb, fun y hy => (hkf y).mpr (List.mem_flatten.mpr ⟨qi, hqm, hy⟩), by (first | lia | omega), s2 _ _ e1, fun y hy => (hs1 y hy).mono s2, fun y hy => (hkf y).mp hy, fun r3 H3 vs3 n3 s3 e3 g3 => ?_⟩
      have hr3 : r3 ≠ acc := fun z => by rw [z, e2] at n3; cases n3
      have ea3 := s3 _ _ e2
      have hr3c : r3 ∉ cs := fun hm => by
        obtain ⟨j, hj⟩ := List.mem_iff_getElem?.mp hm
        have : ∀ {bs : List Addr} {qs : List (List Int)}, Rws t pss H2 bs qs → r3 ∈ bs → H2 r3 ≠ none := by
          intro bs
          induction bs with
          | nil => intro qs _ h; simp at h
          | cons c bs ih =>
            intro qs h hm
            cases qs with
            | nil => exact h.elim
            | cons p qs =>
              rcases List.mem_cons.mp hm with rfl | hm
              · obtain ⟨⟨vs, h1, _⟩, _⟩ := h
                rw [h1]; exact fun z => by cases z
              · exact ih h.2 hm
        exact this g2 hm n3
      refine cpost ea3 (sizeBig (by rw [List.length_map]; (first | lia | omega))) (by rw [List.length_map]; exact hi) ?_
      refine ⟨_, cs ++ [r3], rfl, same_upd (s2.trans s3) ha, upd_same, by rw [List.map_append]; rfl, by simp [hcl], ?_, fun c hc => ?_, ?_⟩
      · rw [List.nodup_append]
        exact ⟨hcn, by simp, fun x hx y hy z => by rw [List.mem_singleton] at hy; subst hy z; exact hr3c hx⟩
      · rcases List.mem_append.mp hc with hc | hc
        · exact hca c hc
        · rw [List.mem_singleton] at hc; subst hc; exact ⟨hr3, s2.free n3⟩
      · rw [List.take_add_one, hqi]
        have su : Same (rm acc H3) (upd H3 acc (.lst (cs.map V.ref ++ [.ref r3]))) := same_upd rm_same rm_self
        exact Rws.snoc ⟨vs3, by rw [upd_ne hr3]; exact e3, (slots_rm ea3 g3).mono su⟩ (Rws.upd ea3 (g2.mono s3) fun c hc => (hca c hc).1)
    · rintro ys σ H2 ⟨z, cs, rfl, s2, e2, rfl, hcl, hcn, hca, g2⟩
      rw [List.length_map, hgl, List.take_length] at g2
      refine ⟨(show 2 ≤ sizeLine by decide), fun r3 H3 n3 s3 e3 _ => ?_⟩
      refine q r3 acc cs tv H3 (s1.free (s2.free n3)) (s1.trans (s2.trans s3)) e3 (g1.mono (s2.trans s3)) (s3 _ _ e2) (g2.mono s3) hcn (fun b hb => ⟨s1.free (hca b hb).2, (hca b hb).1⟩) (s1.free ha)
theorem ok_put {f : Addr} (F : Fd K mg "put" s_put f) (T : Tx K mg) (C_knot_at : Cal P w K mg base CX0 2 "knot_at" spAt) (C_keys_of : Cal P w K mg base CX0 82 "keys_of" (spKof 82)) (C_with_key : Cal P w K mg base CX0 80 "with_key" (spPut 80)) : Cal P w K mg base CX0 83 "put" spPut0 := by
  refine F.cal sc_put (fun _ _ _ _ _ _ us hl => L3.bind2 (fun _ _ => rfl) us hl) (fun vs H Q E h => ?_) (fun cdv A outer s H vs Q E hr h => ?_)
  · obtain ⟨v, k, t, rfl, _⟩ := h; rfl
  · obtain ⟨v, k, t, rfl, hv, ht, hz, hk, q⟩ := h
    refine ⟨_, (bcons (sif (tcmp rIsNot (qF C_knot_at (hr.mono (by (first | lia | omega))) pass0 rfl (qcons (qv 0) (qcons (qv 1) qnil))) qnon (nomark _)) (bone snever) bnil)
      (bcons (sif (tcmp rGe (qB (fLen K) rfl T.b_len bt_len (qcons (qF C_keys_of (hr.mono (by (first | lia | omega))) pass0 rfl (qcons (qv 0) qnil)) qnil)) (qglobI rfl T.g_MOST_KEYS) (nomark _)) (bone snever) bnil)
      (bone (sret (qF C_with_key (hr.mono (by (first | lia | omega))) pass0 rfl (qcons (qv 0) (qcons (qv 1) qnil))))))), ?_⟩
    refine ⟨_, rfl, _, rfl, v, t, k, rfl, hv, fun v' g' => ?_⟩
    have hnil : at_ k t = .nil := Classical.byContradiction fun z => hk (at_mem z)
    rw [hnil] at g'
    cases rep_nil g'
    refine ⟨rfl, _, rfl, ?_⟩
    refine iteF ?_
    refine ⟨_, rfl, v, t, rfl, hv, by (first | lia | omega), by (first | lia | omega), fun r1 H1 n1 s1 e1 => ?_⟩
    refine ⟨r1, _, rfl, .inl (SqL.of e1), _, _, rfl, rfl, _, rfl, ?_⟩
    have hl := Tr.keys_length t
    rw [List.length_map, decide_eq_false (show ¬ (60 : Int) ≤ ((t.keys.length : Nat) : Int) by (first | lia | omega))]
    refine iteF ?_
    exact ⟨_, rfl, _, rfl, v, k, t, rfl, hv.mono s1, ht, fun r H' s' g => q r H' (s1.trans s') g⟩
end
end K36
namespace K36
open PySem L2 L3
noncomputable def along (t : Tr) (pss : List (List Int)) (k : Int) : List Int := (way k t).map (fun y => (numP pss y : Int))
theorem keys_old {kvs : List (Key × V)} {k : Key} (v : V) (h : k ∈ kvs.map (·.1)) : (putK kvs k v).map (·.1) = kvs.map (·.1) := by
  unfold putK
  have ha : (kvs.any fun kv => decide (kv.1 = k)) = true := by
    obtain ⟨p, hp, e⟩ := List.mem_map.mp h
    exact List.any_eq_true.mpr ⟨p, hp, decide_eq_true e⟩
  rw [if_pos ha, List.map_map]
  refine List.map_congr_left fun p _ => ?_
  show (if p.1 = k then (p.1, v) else p).1 = p.1
  split <;> rfl
theorem keys_new {kvs : List (Key × V)} {k : Key} (v : V) (h : k ∉ kvs.map (·.1)) : (putK kvs k v).map (·.1) = kvs.map (·.1) ++ [k] := by
  rw [putK_new _ (valV_none' h), List.map_append]; rfl
noncomputable def spWay : Sp := fun vs H Q _ => ∃ (v : V) (t : Tr) (k : Int), vs = [v, .int k] ∧ Rep H v t.d ∧ t.ht ≤ 1000 ∧ ∀ a H', H a = none → Same H H' → H' a = some (.lst ((way k t).map V.int)) → Q (.ref a) H'
noncomputable def spNums : Sp := fun vs H Q _ => ∃ (a : Addr) (bs : List Addr) (pss : List (List Int)), vs = [.ref a] ∧ H a = some (.lst (bs.map V.ref)) ∧ Pgs H bs pss ∧ pss.flatten.length ≤ 10000 ∧ ∀ r H' kvs, H r = none → Same H H' → H' r = some (.dK kvs) → (∀ y, valV kvs (Sum.inl y : Key) = (numN pss pss.length y).map (fun n : Nat => V.int (n : Int))) → Q (.ref r) H'
noncomputable def preA (v : V) (t : Tr) (a : Addr) (bs : List Addr) (pss : List (List Int)) (H : Hp) : Prop := Rep H v t.d ∧ t.ht ≤ 1000 ∧ H a = some (.lst (bs.map V.ref)) ∧ Pgs H bs pss ∧ pss.flatten.length ≤ 10000 ∧ ∀ y ∈ t.keys, y ∈ pss.flatten
noncomputable def spNumA : Sp := fun vs H Q _ => ∃ (v : V) (t : Tr) (a : Addr) (bs : List Addr) (pss : List (List Int)) (k : Int), vs = [v, .ref a, .int k] ∧ preA v t a bs pss H ∧ ∀ r H', H r = none → Same H H' → H' r = some (.lst ((along t pss k).map V.int)) → Q (.ref r) H'
noncomputable def spMet : Sp := fun vs H Q _ => ∃ (v : V) (t : Tr) (a : Addr) (bs : List Addr) (pss : List (List Int)) (k : Int), vs = [v, .ref a, .int k] ∧ preA v t a bs pss H ∧ ∀ r H', H r = none → Same H H' → H' r = some (.lst ((dd (along t pss k)).map V.int)) → Q (.ref r) H'
noncomputable def spTurns : Sp := fun vs H Q _ => ∃ (v : V) (t : Tr) (a : Addr) (bs : List Addr) (pss : List (List Int)) (k : Int), vs = [v, .ref a, .int k] ∧ preA v t a bs pss H ∧ ∀ H', Same H H' → Q (.int ((chg (along t pss k)).1 : Nat)) H'
theorem ne_vO {H : Hp} {Q : VK} (n : Int) (o : Option Int) (h : Q (.bl (!decide (o = some n))) H) : rNeG 150 (.int n) (vO o) H Q := by
  cases o with
  | none => exact ⟨_, _, .int n, .non, rfl, rfl, Nat.zero_le _, h⟩
  | some m =>
    show Q (.bl (!decide (n = m))) H
    have e : decide (n = m) = decide (some m = some n) := by
      by_cases hm : n = m
      · rw [decide_eq_true hm, decide_eq_true (by rw [hm])]
      · rw [decide_eq_false hm, decide_eq_false (fun z => hm (Option.some.inj z).symm)]
    rw [e]; exact h
section
variable {P : Program} {w : World} {K : PySem.W.Frag} {mg : Str → Option Value} {base : Heap}
theorem ok_way {f : Addr} (F : Fd K mg "way_to" s_way_to f) (T : Tx K mg) (C_side_towards : Cal P w K mg base CX0 1 "side_towards" spSide) : Cal P w K mg base CX0 2 "way_to" spWay := by
  refine F.cal sc_way_to (fun _ _ _ _ _ _ us hl => L3.bind2 (fun _ _ => rfl) us hl) (fun vs H Q E h => ?_) (fun cdv A outer s H vs Q E hr h => ?_)
  · obtain ⟨v, t, k, rfl, _⟩ := h; rfl
  · obtain ⟨v, t, k, rfl, hv, ht, q⟩ := h
    have hwl := way_len k t
    refine ⟨_, (bcons (sset (i := 2) sc_way_to.nd rfl (by first | exact Or.inl rfl | exact Or.inr rfl) (qlst qnil))
      (bcons (swhile PassesOwn.never (QW.tst (wand (tcmp rIsNot (qv 0) qnon (nomark _)) (wand1 (tcmp (rNeq hr) (qix (xIx K) (qv 0) qint (fun _ _ => rfl)) (qv 1) (nomark _)))))
        (bcons (sexpr (qBm K PySem.F.plainAttrs_list PySem.F.slot_list_append PySem.F.type_list_append mAppend (qv 2) (qcons (qix (xIx K) (qv 0) qint (fun _ _ => rfl)) qnil)))
        (bone (sset (i := 0) sc_way_to.nd rfl (by first | exact Or.inl rfl | exact Or.inr rfl) (qF C_side_towards (hr.mono (by (first | lia | omega))) pass0 rfl (qcons (qv 0) (qcons (qv 1) qnil)))))))
      (bone (sret (qif (tcmp rIs (qv 0) qnon (nomark _)) (qv 2) (qop rAdd (qv 2) (qlst (qcons (qv 1) qnil)))))))), ?_⟩
    refine ⟨(show 0 ≤ sizeLine by decide), fun l1 H1 n1 s1 e1 _ => ?_⟩
    refine ⟨fun m σ H' => ∃ (v' : V) (t' : Tr) (ys : List Int), σ = [some v', some (.int k), some (.ref l1)] ∧ Same H H' ∧ H' l1 = some (.lst (ys.map V.int)) ∧ Rep H v' t'.d ∧ ys ++ way k t' = way k t ∧ m = t'.ht, ⟨_, v, t, [], rfl, s1, e1, hv, rfl, rfl⟩, ?_⟩
    rintro m σ H2 ⟨v', t', ys, rfl, s2, e2, hv', hw, rfl⟩
    have hyl : ys.length ≤ 1000 := by
      have := congrArg List.length hw
      rw [List.length_append] at this
      (first | lia | omega)
    cases t' with
    | nil =>
      cases rep_nil hv'
      rw [way, List.append_nil] at hw
      rw [hw] at e2
      refine ⟨_, rfl, rfl, _, rfl, ?_⟩
      refine ⟨_, rfl, rfl, _, rfl, ?_⟩
      exact ⟨_, rfl, q l1 H2 n1 s2 e2⟩
    | node l x r =>
      obtain ⟨a, vl, vr, rfl, ea, hl, hr'⟩ := rep_node hv'
      have ea2 := s2 _ _ ea
      refine ⟨_, rfl, rfl, _, rfl, ?_⟩
      refine iteT ?_
      refine ⟨_, rfl, a, _, 1, _, rfl, rfl, .inr (SqT.of ea2), atI_nat (j := 1) rfl, _, rfl, _, rfl, ?_⟩
      by_cases hx : x = k
      · rw [decide_eq_true hx]
        refine iteF ?_
        rw [way, if_pos hx] at hw
        refine ⟨_, rfl, rfl, _, rfl, ?_⟩
        refine iteF ?_
        refine ⟨_, rfl, _, rfl, (show 1 ≤ sizeLine by decide), fun l3 H3 n3 s3 e3 _ => ?_⟩
        refine ⟨_, _, s3 _ _ e2, e3, sizeBig' (by simp; (first | lia | omega)), fun l4 H4 n4 s4 e4 _ => ?_⟩
        refine q l4 H4 (s2.free (s3.free n4)) (s2.trans (s3.trans s4)) ?_
        rw [e4, ← hw, List.map_append]; rfl
      · rw [decide_eq_false hx]
        refine iteT ?_
        rw [way, if_neg hx] at hw
        refine ⟨fun σ' H' => ∃ m', m' < (Tr.node l x r).ht ∧ ∃ (v' : V) (t' : Tr) (ys : List Int), σ' = [some v', some (.int k), some (.ref l1)] ∧ Same H H' ∧ H' l1 = some (.lst (ys.map V.int)) ∧ Rep H v' t'.d ∧ ys ++ way k t' = way k t ∧ m' = t'.ht, fun _ _ z => z, ?_⟩
        refine ⟨_, rfl, .inl ⟨rfl, _, SqL.of e2⟩, _, rfl, a, _, 1, _, rfl, rfl, .inr (SqT.of ea2), atI_nat (j := 1) rfl, l1, _, _, rfl, rfl, e2, sizeBig (by rw [List.length_map]; (first | lia | omega)), ?_⟩
        have sA := same_upd (o := .lst (ys.map V.int ++ [.int x])) s2 n1
        refine ⟨_, rfl, _, rfl, a, vl, vr, x, k, rfl, sA _ _ ea, ?_⟩
        have hv2 : Rep H (if k < x then vl else vr) (if k < x then l else r).d := by
          by_cases hk : k < x
          · rw [if_pos hk, if_pos hk]; exact hl
          · rw [if_neg hk, if_neg hk]; exact hr'
        refine ⟨_, ?_, _, _, ys ++ [x], rfl, sA, ?_, hv2, ?_, rfl⟩
        · rw [Tr.ht]; split <;> (first | lia | omega)
        · rw [List.map_append]; exact upd_same
        · rw [← hw, List.append_assoc]
          congr 1
          split <;> rfl
theorem ok_nums {f : Addr} (F : Fd K mg "page_numbers" s_page_numbers f) (T : Tx K mg) : Cal P w K mg base CX0 1 "page_numbers" spNums := by
  refine F.cal sc_page_numbers (fun _ _ _ _ _ _ us hl => L3.bind1 (fun _ => rfl) us hl) (fun vs H Q E h => ?_) (fun cdv A outer s H vs Q E hr h => ?_)
  · obtain ⟨a, bs, pss, rfl, _⟩ := h; rfl
  · obtain ⟨a, bs, pss, rfl, ea, hg, hl, q⟩ := h
    have hgl := hg.len
    refine ⟨_, (bcons (sset (i := 1) sc_page_numbers.nd rfl (by first | exact Or.inl rfl | exact Or.inr rfl) qdict)
      (bcons (sfor PassesOwn.never rfl (ienum K rfl T.b_enumerate (qcons (qv 0) qnil)) (gtup (n := 2) K rfl (gscons (gname (i := 2) sc_page_numbers.nd rfl (by first | exact Or.inl rfl | exact Or.inr rfl)) (gscons (gname (i := 3) sc_page_numbers.nd rfl (by first | exact Or.inl rfl | exact Or.inr rfl)) gsnil)))
        (bone (sfor PassesOwn.never rfl (iseq K (qv 3)) (gname (i := 4) sc_page_numbers.nd rfl (by first | exact Or.inl rfl | exact Or.inr rfl))
          (bone (sdput hr (qv 1) (qv 4) (qv 2) rfl)))))
      (bone (sret (qv 1))))), ?_⟩
    refine fun d H1 n1 s1 e1 _ => ?_
    refine ⟨_, rfl, a, _, rfl, s1 _ _ ea, for_enum (xs := bs.map V.ref) (fun i σ H' => ∃ z1 z2 z3 kvs, σ = [some (.ref a), some (.ref d), z1, z2, z3] ∧ Same H H' ∧ H' d = some (.dK kvs) ∧ kvs.length ≤ (pss.take i).flatten.length ∧ ∀ y, valV kvs (Sum.inl y : Key) = (numN pss i y).map (fun n : Nat => V.int (n : Int))) ⟨none, none, none, [], rfl, s1, e1, Nat.zero_le _, fun y => rfl⟩ (fun i σ H' _ hh => by obtain ⟨_, _, _, _, _, s', _⟩ := hh; exact s' _ _ ea) ?_ ?_⟩
    · rintro i x σ H2 T1 hx ⟨z1, z2, z3, kvs, rfl, s2, e2, hk2, hv2⟩ hT
      rw [List.getElem?_map] at hx
      obtain ⟨b, hbx, rfl⟩ := Option.map_eq_some_iff.mp hx
      obtain ⟨qi, hqi, eb⟩ := hg.at hbx
      have hfl := flat_take_len hqi
      have hdT : d ≠ T1 := fun z => by rw [z, hT] at e2; cases e2
      refine ⟨T1, _, rfl, SqT.of upd_same, rfl, _, _, rfl, _, _, rfl, rfl, ?_⟩
      have s3 : Same H (upd H2 T1 (.tup [.int i, .ref b])) := same_upd s2 (s2.free hT)
      have e3 : upd H2 T1 (.tup [.int i, .ref b]) d = some (.dK kvs) := by rw [upd_ne hdT]; exact e2
      generalize upd H2 T1 (.tup [.int i, .ref b]) = H3 at *
      refine ⟨_, rfl, b, rfl, .inl ⟨⟨_, SqL.of (s3 _ _ eb)⟩, for_list (xs := qi.map V.int) (fun j σ H' => ∃ z kvs, σ = [some (.ref a), some (.ref d), some (.int (i : Int)), some (.ref b), z] ∧ Same H H' ∧ H' d = some (.dK kvs) ∧ kvs.length ≤ (pss.take i).flatten.length + j ∧ ∀ y, valV kvs (Sum.inl y : Key) = (if y ∈ qi.take j then some i else numN pss i y).map (fun n : Nat => V.int (n : Int)))
        ⟨z3, kvs, rfl, s3, e3, by (first | lia | omega), fun y => by simpa using hv2 y⟩ (fun j σ H' _ hh => by obtain ⟨_, _, _, s', _⟩ := hh; exact SqL.of (s' _ _ eb)) ?_ ?_⟩⟩
      · rintro j y σ H4 hy ⟨z, kvs4, rfl, s4, e4, hk4, hv4⟩
        rw [List.getElem?_map] at hy
        obtain ⟨k, hk, rfl⟩ := Option.map_eq_some_iff.mp hy
        have hjl := (List.getElem?_eq_some_iff.mp hk).1
        refine ⟨_, rfl, _, rfl, _, rfl, d, _, rfl, .inl ⟨kvs4, Sum.inl k, e4, rfl, sizeBig (by (first | lia | omega)), rfl⟩, ?_⟩
        refine ⟨_, putK kvs4 (Sum.inl k : Key) (.int (i : Int)), rfl, same_upd s4 n1, upd_same, ?_, fun y => ?_⟩
        · have := length_putK kvs4 (Sum.inl k : Key) (.int (i : Int)); (first | lia | omega)
        · rw [valV_put, List.take_add_one, hk]
          by_cases hyk : y = k
          · subst hyk
            rw [if_pos rfl, if_pos (by simp)]; rfl
          · rw [if_neg (fun z => hyk (Sum.inl.inj z)), hv4 y]
            have : (y ∈ qi.take j ++ (some k).toList) ↔ y ∈ qi.take j := by simp [hyk]
            by_cases hm : y ∈ qi.take j
            · rw [if_pos hm, if_pos (this.mpr hm)]
            · rw [if_neg hm, if_neg (fun z => hm (this.mp z))]
      · rintro σ H4 ⟨z, kvs4, rfl, s4, e4, hk4, hv4⟩
        rw [List.length_map] at hk4 hv4
        rw [List.take_length] at hv4
        refine ⟨_, _, _, kvs4, rfl, s4, e4, ?_, fun y => ?_⟩
        · rw [List.take_add_one, hqi, List.flatten_append, List.length_append]; simpa using hk4
        · rw [hv4 y, numN, List.getD_eq_getElem?_getD, hqi]; rfl
    · rintro σ H2 ⟨z1, z2, z3, kvs, rfl, s2, e2, hk2, hv2⟩
      rw [List.length_map, hgl] at hv2
      exact ⟨_, rfl, q d H2 kvs n1 s2 e2 hv2⟩
theorem ok_numA {f : Addr} (F : Fd K mg "numbers_along" s_numbers_along f) (T : Tx K mg) (C_page_numbers : Cal P w K mg base CX0 1 "page_numbers" spNums) (C_way_to : Cal P w K mg base CX0 2 "way_to" spWay) : Cal P w K mg base CX0 3 "numbers_along" spNumA := by
  refine F.cal sc_numbers_along (fun _ _ _ _ _ _ us hl => L3.bind3 (fun _ _ _ => rfl) us hl) (fun vs H Q E h => ?_) (fun cdv A outer s H vs Q E hr h => ?_)
  · obtain ⟨v, t, a, bs, pss, k, rfl, _⟩ := h; rfl
  · obtain ⟨v, t, a, bs, pss, k, rfl, ⟨hv, ht, ea, hg, hl, hk⟩, q⟩ := h
    have hwl := way_len k t
    refine ⟨_, (bcons (sset (i := 3) sc_numbers_along.nd rfl (by first | exact Or.inl rfl | exact Or.inr rfl) (qF C_page_numbers (hr.mono (by (first | lia | omega))) pass0 rfl (qcons (qv 1) qnil)))
      (bone (sret (qcomp (sc := defScope s_numbers_along) (NX := ["tree", "layout", "key", "numbers"]) ["knot", "numbers"] [none, some 3] rfl (iseq K (qF C_way_to (hr.mono (by (first | lia | omega))) pass0 rfl (qcons (qv 0) (qcons (qv 2) qnil)))) (fun _ _ _ => (gname (i := 0) (show (["knot", "numbers"] : List Str).Nodup by decide +kernel) rfl (by first | exact Or.inl rfl | exact Or.inr rfl))) (fun _ _ _ => csnil) (fun _ _ _ => (qdget hr (qv 1) (qv 0) (fun _ _ => rfl))) rfl rfl (by decide +kernel))))), ?_⟩
    refine ⟨_, rfl, a, bs, pss, rfl, ea, hg, hl, fun d H1 kvs n1 s1 e1 hv1 => ?_⟩
    refine ⟨_, rfl, _, rfl, v, t, k, rfl, hv.mono s1, ht, fun w2 H2 n2 s2 e2 => ?_⟩
    have ed2 := s2 _ _ e1
    refine ⟨w2, rfl, .inl ⟨⟨_, SqL.of e2⟩, fun acc ha => ?_⟩⟩
    refine comp_list (xs := (way k t).map V.int) (fun i ys σ H' => ∃ z, σ = [z, some (.ref d)] ∧ Same H2 H' ∧ H' acc = some (.lst ys) ∧ ys = (((way k t).take i).map (fun y => (numP pss y : Int))).map V.int) ⟨none, rfl, same_new ha, upd_same, rfl⟩ (fun i ys σ H' hh => by obtain ⟨_, _, s', _⟩ := hh; exact SqL.of (s' _ _ e2)) ?_ ?_
    · rintro i ys y σ H3 hy hi ⟨z, rfl, s3, e3, rfl⟩
      rw [List.getElem?_map] at hy
      obtain ⟨n, hn, rfl⟩ := Option.map_eq_some_iff.mp hy
      rw [List.length_map] at hi
      have hnk := hk n (way_sub k t n (List.mem_of_getElem? hn))
      have hval : valV kvs (Sum.inl n : Key) = some (.int (numP pss n : Int)) := by rw [hv1 n, numP_eq hnk]; rfl
      refine ⟨_, rfl, _, rfl, d, _, rfl, .inl ⟨kvs, Sum.inl n, .inl (s3 _ _ ed2), rfl, hval.symm⟩, ?_⟩
      refine cpost e3 (sizeBig (by simp; (first | lia | omega))) (by rw [List.length_map]; exact hi) ?_
      exact ⟨_, rfl, same_upd s3 ha, upd_same, by rw [List.take_add_one, hn, List.map_append, List.map_append]; rfl⟩
    · rintro ys σ H3 ⟨z, rfl, s3, e3, rfl⟩
      rw [List.length_map, List.take_length] at e3
      exact q acc H3 (s1.free (s2.free ha)) (s1.trans (s2.trans s3)) e3
theorem ok_met {f : Addr} (F : Fd K mg "pages_met" s_pages_met f) (T : Tx K mg) (C_numbers_along : Cal P w K mg base CX0 3 "numbers_along" spNumA) : Cal P w K mg base CX0 4 "pages_met" spMet := by
  refine F.cal sc_pages_met (fun _ _ _ _ _ _ us hl => L3.bind3 (fun _ _ _ => rfl) us hl) (fun vs H Q E h => ?_) (fun cdv A outer s H vs Q E hr h => ?_)
  · obtain ⟨v, t, a, bs, pss, k, rfl, _⟩ := h; rfl
  · obtain ⟨v, t, a, bs, pss, k, rfl, ⟨hv, ht, ea, hg, hl, hk⟩, q⟩ := h
    have hwl := way_len k t
    refine ⟨_, (bcons (sset (i := 3) sc_pages_met.nd rfl (by first | exact Or.inl rfl | exact Or.inr rfl) qdict)
      (bcons (sfor PassesOwn.never rfl (iseq K (qF C_numbers_along (hr.mono (by (first | lia | omega))) pass0 rfl (qcons (qv 0) (qcons (qv 1) (qcons (qv 2) qnil))))) (gname (i := 4) sc_pages_met.nd rfl (by first | exact Or.inl rfl | exact Or.inr rfl))
        (bone (sdput hr (qv 3) (qv 4) qbl rfl)))
      (bone (sret (qTy fListD rfl T.b_list bt_list (qcons (qv 3) qnil)))))), ?_⟩
    refine fun d H1 n1 s1 e1 _ => ?_
    refine ⟨_, rfl, _, rfl, _, rfl, v, t, a, bs, pss, k, rfl, ⟨hv.mono s1, ht, s1 _ _ ea, hg.mono s1, hl, hk⟩, fun r2 H2 n2 s2 e2 => ?_⟩
    have hdr : r2 ≠ d := fun z => by rw [z, e1] at n2; cases n2
    have hal : (along t pss k).length ≤ 1000 := by unfold along; rw [List.length_map]; (first | lia | omega)
    refine ⟨r2, rfl, .inl ⟨⟨_, SqL.of e2⟩, for_list (xs := (along t pss k).map V.int) (fun i σ H' => ∃ z kvs, σ = [some v, some (.ref a), some (.int k), some (.ref d), z] ∧ Same H H' ∧ H' r2 = some (.lst ((along t pss k).map V.int)) ∧ H' d = some (.dK kvs) ∧ kvs.map (·.1) = (dd ((along t pss k).take i)).map (fun n => (Sum.inl n : Key)))
      ⟨none, [], rfl, s1.trans s2, e2, s2 _ _ e1, rfl⟩ (fun i σ H' _ hh => by obtain ⟨_, _, _, _, e', _⟩ := hh; exact SqL.of e') ?_ ?_⟩⟩
    · rintro i y σ H3 hy ⟨z, kvs, rfl, s3, er3, e3, hkk⟩
      rw [List.getElem?_map] at hy
      obtain ⟨n, hn, rfl⟩ := Option.map_eq_some_iff.mp hy
      have hkl : kvs.length ≤ 1000 := by
        have h1 := congrArg List.length hkk
        rw [List.length_map, List.length_map] at h1
        have h2 := dd_len ((along t pss k).take i)
        rw [List.length_take] at h2
        (first | lia | omega)
      refine ⟨_, rfl, _, rfl, d, _, rfl, .inl ⟨kvs, Sum.inl n, e3, rfl, sizeBig (by (first | lia | omega)), rfl⟩, ?_⟩
      refine ⟨_, putK kvs (Sum.inl n : Key) (.bl true), rfl, same_upd s3 n1, by rw [upd_ne hdr]; exact er3, upd_same, ?_⟩
      rw [List.take_add_one, hn]
      show _ = (dd ((along t pss k).take i ++ [n])).map _
      rw [dd_snoc]
      unfold ddS
      have hme : ((Sum.inl n : Key) ∈ (dd ((along t pss k).take i)).map (fun n => (Sum.inl n : Key))) ↔ n ∈ dd ((along t pss k).take i) := by
        rw [List.mem_map]
        exact ⟨fun ⟨m, h1, h2⟩ => Sum.inl.inj h2 ▸ h1, fun h => ⟨n, h, rfl⟩⟩
      by_cases hm : n ∈ dd ((along t pss k).take i)
      · rw [if_pos hm, keys_old _ (by rw [hkk]; exact hme.mpr hm), hkk]
      · rw [if_neg hm, keys_new _ (by rw [hkk]; exact fun z => hm (hme.mp z)), hkk, List.map_append]; rfl
    · rintro σ H3 ⟨z, kvs, rfl, s3, er3, e3, hkk⟩
      rw [List.length_map, List.take_length] at hkk
      refine ⟨_, rfl, d, kvs, rfl, .inl e3, fun r4 H4 n4 s4 e4 _ => ?_⟩
      refine q r4 H4 (s3.free n4) (s3.trans s4) ?_
      rw [e4]
      have : kvs.map (fun kv => kV kv.1) = (kvs.map (·.1)).map kV := by rw [List.map_map]; rfl
      rw [this, hkk, List.map_map]; rfl
theorem ok_turns {f : Addr} (F : Fd K mg "page_turns" s_page_turns f) (T : Tx K mg) (C_numbers_along : Cal P w K mg base CX0 3 "numbers_along" spNumA) : Cal P w K mg base CX0 4 "page_turns" spTurns := by
  refine F.cal sc_page_turns (fun _ _ _ _ _ _ us hl => L3.bind3 (fun _ _ _ => rfl) us hl) (fun vs H Q E h => ?_) (fun cdv A outer s H vs Q E hr h => ?_)
  · obtain ⟨v, t, a, bs, pss, k, rfl, _⟩ := h; rfl
  · obtain ⟨v, t, a, bs, pss, k, rfl, hpre, q⟩ := h
    refine ⟨_, (bcons (sset (i := 3) sc_page_turns.nd rfl (by first | exact Or.inl rfl | exact Or.inr rfl) qint)
      (bcons (sset (i := 4) sc_page_turns.nd rfl (by first | exact Or.inl rfl | exact Or.inr rfl) qnon)
      (bcons (sfor PassesOwn.never rfl (iseq K (qF C_numbers_along (hr.mono (by (first | lia | omega))) pass0 rfl (qcons (qv 0) (qcons (qv 1) (qcons (qv 2) qnil))))) (gname (i := 5) sc_page_turns.nd rfl (by first | exact Or.inl rfl | exact Or.inr rfl))
        (bone (sif (tcmp (rNeq hr) (qv 5) (qv 4) (nomark _)) (bcons (saug (i := 3) sc_page_turns.nd rfl (by first | exact Or.inl rfl | exact Or.inr rfl) qint iAdd)
          (bone (sset (i := 4) sc_page_turns.nd rfl (by first | exact Or.inl rfl | exact Or.inr rfl) (qv 5)))) bnil)))
      (bone (sret (qv 3)))))), ?_⟩
    refine ⟨_, rfl, _, rfl, _, rfl, v, t, a, bs, pss, k, rfl, hpre, fun r2 H2 n2 s2 e2 => ?_⟩
    refine ⟨r2, rfl, .inl ⟨⟨_, SqL.of e2⟩, for_list (xs := (along t pss k).map V.int) (fun i σ H' => ∃ z, σ = [some v, some (.ref a), some (.int k), some (.int ((chg ((along t pss k).take i)).1 : Nat)), some (vO (chg ((along t pss k).take i)).2), z] ∧ Same H2 H') ⟨none, rfl, Same.refl _⟩ (fun i σ H' _ hh => by obtain ⟨_, _, s'⟩ := hh; exact SqL.of (s' _ _ e2)) ?_ ?_⟩⟩
    · rintro i y σ H3 hy ⟨z, rfl, s3⟩
      rw [List.getElem?_map] at hy
      obtain ⟨n, hn, rfl⟩ := Option.map_eq_some_iff.mp hy
      have hts : chg ((along t pss k).take (i + 1)) = chS (chg ((along t pss k).take i)) n := by rw [List.take_add_one, hn]; exact chg_snoc _ _
      refine ⟨_, rfl, _, rfl, ?_⟩
      refine ne_vO n _ ?_
      refine ⟨_, rfl, ?_⟩
      by_cases he : (chg ((along t pss k).take i)).2 = some n
      · rw [decide_eq_true he]
        refine iteF ?_
        refine ⟨some (.int n), ?_, s3⟩
        rw [hts]
        unfold chS
        rw [if_pos he, ← he]; rfl
      · rw [decide_eq_false he]
        refine iteT ?_
        refine ⟨_, rfl, _, _, rfl, rfl, _, rfl, ?_⟩
        refine ⟨some (.int n), ?_, s3⟩
        rw [hts]
        unfold chS
        rw [if_neg he]; rfl
    · rintro σ H3 ⟨z, rfl, s3⟩
      rw [List.length_map, List.take_length]
      exact ⟨_, rfl, q H3 (s2.trans s3)⟩
end
end K36
namespace K36
open PySem PySem.Spec PyProof.Rows L2 L3
noncomputable def clo (L : Addr) : List (Str × Addr) := [("_law_rows", L + 1), ("_law_notes", L + 2)]
noncomputable abbrev qT : Str := "_law_reader.<locals>._law_tells"
noncomputable def fdT (L c' : Addr) (doc pm ctv : Value) : FuncData := PySem.W.fnX "_law_tells" qT (defArgs s_law_tells) (defBody s_law_tells) (defScope s_law_tells) (clo L) .none .none doc pm none (.ref c') ctv
structure RdS (H : Hp) (f c' L : Addr) (fd : FuncData) (rows notes : Addr) : Prop where
  fn : H f = some (fnE f fd)
  cd : H c' = some (codeE c' qT)
  c1 : H (L + 1) = some (cellE (L + 1) (.ref rows))
  c2 : H (L + 2) = some (cellE (L + 2) (.ref notes))
theorem RdS.mono {H H' : Hp} {f c' L : Addr} {fd : FuncData} {rows notes : Addr} (h : RdS H f c' L fd rows notes) (s : Same H H') : RdS H' f c' L fd rows notes := ⟨s _ _ h.fn, s _ _ h.cd, s _ _ h.c1, s _ _ h.c2⟩
theorem ext_lst {H : Hp} {a b : Addr} {g : Heap → Prop} {xs : List V} (h : H a = some (.ext g)) (e : H b = some (.lst xs)) : a ≠ b := fun z => by rw [z, e] at h; cases h
theorem RdS.rm {H : Hp} {f c' L : Addr} {fd : FuncData} {rows notes : Addr} {b : Addr} {xs : List V} (h : RdS H f c' L fd rows notes) (e : H b = some (.lst xs)) : RdS (rm b H) f c' L fd rows notes :=
  ⟨by rw [rm_ne (ext_lst h.fn e)]; exact h.fn, by rw [rm_ne (ext_lst h.cd e)]; exact h.cd, by rw [rm_ne (ext_lst h.c1 e)]; exact h.c1, by rw [rm_ne (ext_lst h.c2 e)]; exact h.c2⟩
noncomputable def spTells (f c' L : Addr) (fd : FuncData) (rows notes : Addr) : Sp := fun vs H Q _ => ∃ (n : Nat) (ns : List V) (bs : List Addr) (b : Addr) (ws : List V), vs = [.int n] ∧ RdS H f c' L fd rows notes ∧ H notes = some (.lst ns) ∧ ns.length ≤ 1000 ∧ H rows = some (.lst (bs.map V.ref)) ∧ bs[n]? = some b ∧ H b = some (.lst ws) ∧ rows ≠ notes ∧ b ≠ notes ∧
  ∀ H', Same (rm notes H) H' → H' notes = some (.lst (ns ++ [.int n])) → H' b = some (.lst ws) → Q (.ref b) H'
section
variable {P : Program} {w : World} {K : PySem.W.Frag} {mg : Str → Option Value} {base : Heap}
theorem ok_tells (T : Tx K mg) {f c' L rows notes : Addr} {doc pm ctv : Value} : FnOk P w K mg base CX0 1 f (fdT L c' doc pm ctv) ["_law_number"] (spTells f c' L (fdT L c' doc pm ctv) rows notes) := by
  have l1 : (clo L).lookup ("_law_rows" : Str) = some (L + 1) := by rfl
  have l2 : (clo L).lookup ("_law_notes" : Str) = some (L + 2) := by rfl
  have lall : ∀ x c, (clo L).lookup x = some c → (x = "_law_rows" ∧ c = L + 1) ∨ (x = "_law_notes" ∧ c = L + 2) := fun x c e => by
    have := lookup_in e
    simp only [clo, List.mem_cons, Prod.mk.injEq, List.not_mem_nil, or_false] at this
    exact this
  refine fn_clo (cv := fun x => ([(("_law_rows" : Str), V.ref rows), ("_law_notes", .ref notes)] : List (Str × V)).lookup x) sc_law_tells ?inj ?clm ?has ?cvok ?len ?hH ?hbody
  case inj =>
    intro x y c h1 h2
    rcases lall x c h1 with ⟨rfl, rfl⟩ | ⟨rfl, rfl⟩ <;> rcases lall y _ h2 with ⟨rfl, e⟩ | ⟨rfl, e⟩ <;> first | rfl | (exfalso; have e' : (_ : Nat) = _ := e; (first | lia | omega))
  case clm =>
    intro x c h
    simp only [clo, List.mem_cons, Prod.mk.injEq, List.not_mem_nil, or_false] at h
    rcases h with ⟨rfl, rfl⟩ | ⟨rfl, rfl⟩
    · exact l1
    · exact l2
  case has =>
    intro x h
    have hm := lookup_in h
    have key : ∀ y ∈ (defScope s_law_tells).names, y.2 = .free → y.1 = "_law_rows" ∨ y.1 = "_law_notes" := by decide +kernel
    rcases key _ hm rfl with e | e
    · exact ⟨_, by rw [show x = "_law_rows" from e]; exact l1⟩
    · exact ⟨_, by rw [show x = "_law_notes" from e]; exact l2⟩
  case cvok =>
    intro x hx v _
    have key : ∀ x ∈ (["_law_number", "_law_rows", "_law_notes"] : List Str).drop (["_law_number"] : List Str).length, (defScope s_law_tells).names.lookup x = some .free := by decide +kernel
    exact key x hx
  case len => rintro vs H Q E ⟨n, ns, bs, b, ws, rfl, _⟩; rfl
  case hH =>
    rintro vs H Q E ⟨n, ns, bs, b, ws, rfl, R, _⟩
    refine ⟨R.fn, R.cd, fun x c e => ?_⟩
    rcases lall x c e with ⟨rfl, rfl⟩ | ⟨rfl, rfl⟩
    · exact ⟨_, rfl, R.c1⟩
    · exact ⟨_, rfl, R.c2⟩
  case hbody =>
    rintro A outer s H vs Q E hr ⟨n, ns, bs, b, ws, rfl, R, en, hnl, er, hb, eb, nr, nb, q⟩
    have cin : ∀ a xs, H a = some (.lst xs) → a ∉ (clo L).map (·.2) := fun a xs e z => by
      simp only [clo, List.map_cons, List.map_nil, List.mem_cons, List.not_mem_nil, or_false] at z
      rcases z with z | z
      · exact ext_lst R.c1 e z.symm
      · exact ext_lst R.c2 e z.symm
    have bk : ∀ {G : Hp} {a : Addr} {xs : List V}, G a = some (.lst xs) → a ∉ (clo L).map (·.2) → backC ((clo L).map (·.2)) H G a = some (.lst xs) := fun e z => by rw [backC_ne z]; exact e
    let H0 : Hp := hideC ((clo L).map (·.2)) H
    have en0 : H0 notes = some (.lst ns) := by show hideC _ _ _ = _; rw [hideC_ne (cin _ _ en)]; exact en
    have er0 : H0 rows = some (.lst (bs.map V.ref)) := by show hideC _ _ _ = _; rw [hideC_ne (cin _ _ er)]; exact er
    have eb0 : H0 b = some (.lst ws) := by show hideC _ _ _ = _; rw [hideC_ne (cin _ _ eb)]; exact eb
    have back : ∀ G : Hp, Same (rm notes H0) G → Same (rm notes H) (backC ((clo L).map (·.2)) H G) := fun G s a o e => by
      by_cases hc : a ∈ (clo L).map (·.2)
      · rw [backC_in hc]; exact rm_same _ _ e
      · rw [backC_ne hc]
        refine s a o ?_
        by_cases ha : a = notes
        · rw [ha, rm_self] at e; cases e
        · rw [rm_ne ha] at e ⊢
          show hideC _ _ _ = _
          rw [hideC_ne hc]; exact e
    suffices h : ∃ t, QSs (cxClo P w K mg base ["_law_number", "_law_rows", "_law_notes"] qT (defScope s_law_tells) f (.ref c') (clo L) A outer s H) (defBody s_law_tells) t ∧
        t { nx := fun _ H' => (∀ c ∈ (clo L).map (·.2), H' c = none) → Q .non (backC ((clo L).map (·.2)) H H'), rt := fun v H' => (∀ c ∈ (clo L).map (·.2), H' c = none) → Q v (backC ((clo L).map (·.2)) H H') } [some (V.int n), some (V.ref rows), some (V.ref notes)] H0 from let ⟨t, p, q⟩ := h; ⟨t, p.un, q⟩
    refine ⟨_, (bcons (sexpr (qBm K PySem.F.plainAttrs_list PySem.F.slot_list_append PySem.F.type_list_append mAppend (qv 2) (qcons (qv 0) qnil)))
      (bone (sret (qix (xIx K) (qv 1) (qv 0) (fun _ _ => rfl))))), ?_⟩
    refine ⟨_, rfl, .inl ⟨rfl, _, SqL.of en0⟩, _, rfl, notes, _, _, rfl, rfl, en0, sizeBig (by (first | lia | omega)), ?_⟩
    have u1 : Same (rm notes H0) (upd H0 notes (.lst (ns ++ [.int n]))) := same_upd rm_same rm_self
    have e1 : upd H0 notes (.lst (ns ++ [.int n])) notes = some (.lst (ns ++ [.int n])) := upd_same
    have er1 : upd H0 notes (.lst (ns ++ [.int n])) rows = some (.lst (bs.map V.ref)) := by rw [upd_ne nr]; exact er0
    have eb1 : upd H0 notes (.lst (ns ++ [.int n])) b = some (.lst ws) := by rw [upd_ne nb]; exact eb0
    generalize upd H0 notes (.lst (ns ++ [.int n])) = H1 at *
    have hnL := cin _ _ en
    have hbL := cin _ _ eb
    have hix : atI (bs.map V.ref) (n : Int) = some (V.ref b) := atI_nat (j := n) (by rw [List.getElem?_map, hb]; rfl)
    refine ⟨_, rfl, _, rfl, rows, _, _, _, rfl, rfl, .inl (SqL.of er1), hix, ?_⟩
    intro _
    exact q _ (back _ u1) (bk e1 hnL) (bk eb1 hbL)
noncomputable def posT : Pos := match s_law_tells with
  | .FunctionDef _ _ _ _ _ _ _ _ _ p => p
  | _ => ⟨0, 0, 0, 0⟩
noncomputable def spReader (mg : Str → Option Value) (Pt : Addr) : Sp := fun vs H Q _ => ∃ (rows notes : Addr), vs = [.ref rows, .ref notes] ∧ TB Pt posT qT H ∧
  ∀ (f c' L : Addr) (doc ctv : Value) (H1 : Hp), H f = none → Same (rm Pt H) H1 → TB Pt posT qT H1 → RdS H1 f c' L (fdT L c' doc ((mg "__name__").getD .none) ctv) rows notes → Q (.ref f) H1
theorem ok_reader {f c Pt : Addr} (F : Fd K mg "_law_reader" s_law_reader f) (hcode : ∀ oc od fd sl, K.lookup f = some ⟨oc, od, .func fd, sl⟩ → fd.code = .ref c) (C : PySem.W.CodeHd base c Pt) (BA : base.BuiltinsAt mg Pt) : Cal P w K mg base CX0 1 "_law_reader" (spReader mg Pt) := by
  obtain ⟨⟨fd, F1⟩, F2⟩ := F
  refine ⟨f, fd, ["_law_rows", "_law_notes"], ?ok, F2, F1.kp, F1.binds (fun _ _ _ _ _ _ us hl => L3.bind2 (fun _ _ => rfl) us hl)⟩
  case ok =>
    obtain ⟨oc, od, kV, doc, pm, an, cdv, ct, osl, rfl, lk, hcd⟩ := F1.ex
    obtain rfl : cdv = .ref c := hcode _ _ _ _ lk
    obtain ⟨p1, p2, hb⟩ : ∃ p1 p2, defBody s_law_reader = [.FunctionDef "_law_tells" (defArgs s_law_tells) (defBody s_law_tells) [] none [] (defScope s_law_tells) none "_law_tells" posT, .Return (some (.Name "_law_tells" p1)) p2] := ⟨_, _, rfl⟩
    rw [hb] at lk ⊢
    refine fn_maker (i := 2) (q := qT) (clos := clo) lk hcd sc_law_reader C BA rfl (by decide) (by rfl) (by decide +kernel) (fun L => by kernel_rfl) ?hclc (by decide +kernel) (by decide +kernel) rfl rfl (fun _ => by rfl) (by decide) ?len ?hsp
    case hclc =>
      intro L x cc h
      simp only [clo, List.mem_cons, Prod.mk.injEq, List.not_mem_nil, or_false] at h
      rcases h with ⟨rfl, rfl⟩ | ⟨rfl, rfl⟩
      · exact ⟨by decide, by kernel_rfl⟩
      · exact ⟨by decide, by kernel_rfl⟩
    case len => rintro vs H Q E ⟨rows, notes, rfl, _⟩; rfl
    case hsp =>
      rintro vs H Q E ⟨rows, notes, rfl, hT, q⟩
      refine ⟨hT, fun f c' L doc ctv H1 n1 e1 e2 hT1 kept hc => ?_⟩
      have cell : ∀ x cc, (x, cc) ∈ clo L → ∀ (j : Nat) (v : V), (["_law_rows", "_law_notes"] : List Str)[j]? = some x → ([V.ref rows, .ref notes] : List V)[j]? = some v → H1 cc = some (cellE cc v) := fun x cc hm j v hj hv => by
        obtain ⟨_, j', v', hj', hv', e⟩ := hc x cc hm
        have hjj : j = j' := by
          have hnd : (["_law_rows", "_law_notes"] : List Str).Nodup := by decide +kernel
          exact (List.getElem?_inj (List.getElem?_eq_some_iff.mp hj).1 hnd).mp (hj.trans hj'.symm)
        subst hjj
        rw [hv] at hv'
        cases hv'
        exact e
      refine q f c' L doc ctv H1 n1 (fun b o e => ?_) hT1 ⟨e1, e2, cell "_law_rows" _ (by simp [clo]) 0 _ rfl rfl, cell "_law_notes" _ (by simp [clo]) 1 _ rfl rfl⟩
      by_cases hb : b = Pt
      · rw [hb, rm_self] at e; cases e
      · rw [rm_ne hb] at e; exact kept b o hb e
theorem tab_code {x : Str} {f c Pt : Addr} {oc : Value} {od : Option Addr} {fd : FuncData} {sl : Array (Option Value)} (e1 : PySem.W.nsIn K mainGlobals x = some (some (.ref f))) (ht : PySem.W.tabIn K x = some (c, Pt)) (e2 : K.lookup f = some ⟨oc, od, .func fd, sl⟩) : fd.code = .ref c := by
  unfold PySem.W.tabIn at ht
  rw [e1] at ht
  dsimp only at ht
  rw [e2] at ht
  dsimp only at ht
  split at ht
  · split at ht
    · split at ht
      · cases ht; assumption
      · cases ht
    · cases ht
  · cases ht
end
end K36
namespace K36
open PySem L2 L3
noncomputable def rnS (acc : List Int) (x : Int) : List Int := if acc.getLast? = some x then acc else acc ++ [x]
noncomputable def rn (xs : List Int) : List Int := xs.foldl rnS []
theorem rn_snoc (xs : List Int) (x : Int) : rn (xs ++ [x]) = rnS (rn xs) x := by unfold rn; rw [List.foldl_append]; rfl
theorem rnS_len (acc : List Int) (x : Int) : (rnS acc x).length ≤ acc.length + 1 := by
  unfold rnS; split
  · (first | lia | omega)
  · simp
theorem rnS_last (acc : List Int) (x : Int) : (rnS acc x).getLast? = some x := by
  unfold rnS; split
  · assumption
  · simp
theorem rn_len (xs : List Int) : (rn xs).length ≤ xs.length := by
  unfold rn
  suffices h : ∀ (ys acc : List Int), (ys.foldl rnS acc).length ≤ acc.length + ys.length by
    have := h xs []; simpa using this
  intro ys
  induction ys with
  | nil => intro acc; simp
  | cons y ys ih =>
    intro acc
    have h1 := ih (rnS acc y)
    have h2 := rnS_len acc y
    simp only [List.foldl_cons, List.length_cons]
    (first | lia | omega)
noncomputable def spToward : Sp := fun vs H Q _ => ∃ (a : Addr) (v1 v2 : V) (x k : Int), vs = [.ref a, .int k] ∧ H a = some (.tup [.int x, v1, v2]) ∧ Q (if k = x then .non else if k < x then v1 else v2) H
theorem rn_last (xs : List Int) : (rn xs).getLast? = xs.getLast? := by
  rcases List.eq_nil_or_concat xs with rfl | ⟨ys, y, rfl⟩
  · rfl
  · rw [List.concat_eq_append, rn_snoc, rnS_last]; simp
theorem rn_chg (xs : List Int) : (rn xs).length = (chg xs).1 := by
  suffices h : ∀ n (xs : List Int), xs.length = n → (rn xs).length = (chg xs).1 from h _ xs rfl
  intro n
  induction n with
  | zero => intro xs h; rw [List.length_eq_zero_iff] at h; subst h; rfl
  | succ n ih =>
    intro xs h
    rcases List.eq_nil_or_concat xs with rfl | ⟨ys, y, rfl⟩
    · simp at h
    · rw [List.concat_eq_append] at h ⊢
      have h1 := ih ys (by simp at h; exact h)
      rw [rn_snoc, chg_snoc]
      unfold rnS chS
      rw [rn_last, chg_last]
      by_cases c : ys.getLast? = some y
      · rw [if_pos c, if_pos c]; exact h1
      · rw [if_neg c, if_neg c, List.length_append, h1]; rfl
theorem ddS_in {acc : List Int} {n : Int} (h : n ∈ acc) : ddS acc n = acc := by unfold ddS; rw [if_pos h]
theorem rn_dd (xs : List Int) : dd (rn xs) = dd xs := by
  suffices h : ∀ n (xs : List Int), xs.length = n → dd (rn xs) = dd xs from h _ xs rfl
  intro n
  induction n with
  | zero => intro xs h; rw [List.length_eq_zero_iff] at h; subst h; rfl
  | succ n ih =>
    intro xs h
    rcases List.eq_nil_or_concat xs with rfl | ⟨ys, z, rfl⟩
    · simp at h
    · rw [List.concat_eq_append] at h ⊢
      have h1 := ih ys (by simp at h; exact h)
      rw [rn_snoc]
      unfold rnS
      split
      · rename_i c
        rw [rn_last] at c
        rw [h1, dd_snoc, ddS_in ((dd_mem z ys).mpr (List.mem_of_getLast? c))]
      · rw [dd_snoc, dd_snoc, h1]
section
variable {P : Program} {w : World} {K : PySem.W.Frag} {mg : Str → Option Value} {base : Heap}
theorem ok_toward {f : Addr} (F : Fd K mg "spot_towards" s_spot_towards f) (T : Tx K mg) : Cal P w K mg base CX0 1 "spot_towards" spToward := by
  refine F.cal sc_spot_towards (fun _ _ _ _ _ _ us hl => L3.bind2 (fun _ _ => rfl) us hl) (fun vs H Q E h => ?_) (fun cdv A outer s H vs Q E hr h => ?_)
  · obtain ⟨a, v1, v2, x, k, rfl, _⟩ := h; rfl
  · obtain ⟨a, v1, v2, x, k, rfl, ea, q⟩ := h
    refine ⟨_, (bcons (sif (tcmp (rEqq hr) (qv 1) (qix (xIx K) (qv 0) qint (fun _ _ => rfl)) (nomark _)) (bone (sret qnon)) bnil)
      (bone (sret (qif (tcmp rLt (qv 1) (qix (xIx K) (qv 0) qint (fun _ _ => rfl)) (nomark _)) (qix (xIx K) (qv 0) qint (fun _ _ => rfl)) (qix (xIx K) (qv 0) qint (fun _ _ => rfl)))))), ?_⟩
    refine ⟨_, rfl, _, rfl, a, _, 0, _, rfl, rfl, .inr (SqT.of ea), atI_nat (j := 0) rfl, _, rfl, ?_⟩
    by_cases h1 : k = x
    · rw [if_pos h1] at q
      rw [decide_eq_true h1]
      refine iteT ?_
      exact q
    · rw [if_neg h1] at q
      rw [decide_eq_false h1]
      refine iteF ?_
      refine ⟨_, rfl, _, rfl, a, _, 0, _, rfl, rfl, .inr (SqT.of ea), atI_nat (j := 0) rfl, _, _, rfl, rfl, _, rfl, ?_⟩
      refine ite2 (fun h => ?_) (fun h => ?_)
      · have h : k < x := of_decide_eq_true h
        rw [if_pos h] at q
        exact ⟨_, rfl, a, _, 1, _, rfl, rfl, .inr (SqT.of ea), atI_nat (j := 1) rfl, q⟩
      · have h : ¬ k < x := fun z => h (decide_eq_true z)
        rw [if_neg h] at q
        exact ⟨_, rfl, a, _, 2, _, rfl, rfl, .inr (SqT.of ea), atI_nat (j := 2) rfl, q⟩
end
end K36
namespace K36
open PySem L2 L3
inductive Dn : Tr → Tr → Prop where
  | refl (t : Tr) : Dn t t
  | l {l r t' : Tr} {x : Int} : Dn l t' → Dn (.node l x r) t'
  | r {l r t' : Tr} {x : Int} : Dn r t' → Dn (.node l x r) t'
theorem Dn.trans {a b c : Tr} (h : Dn a b) (h' : Dn b c) : Dn a c := by
  induction h with
  | refl => exact h'
  | l _ ih => exact .l (ih h')
  | r _ ih => exact .r (ih h')
theorem Dn.at {t t' : Tr} (h : Dn t t') : ∀ lo hi, t.ord lo hi → ∀ l x r, t' = .node l x r → at_ x t = .node l x r ∧ x ∈ t.keys := by
  induction h with
  | refl t =>
    rintro lo hi ho l x r rfl
    exact ⟨by rw [at_, if_pos rfl], by simp [Tr.keys]⟩
  | @l l0 r0 t' x0 _ ih =>
    rintro lo hi ho l x r rfl
    obtain ⟨h1, h2⟩ := ih _ _ ho.2.2.1 l x r rfl
    have hlt := ord_l ho h2
    exact ⟨by rw [at_, if_neg (by (first | lia | omega)), if_pos hlt]; exact h1, by rw [Tr.keys]; simp [h2]⟩
  | @r l0 r0 t' x0 _ ih =>
    rintro lo hi ho l x r rfl
    obtain ⟨h1, h2⟩ := ih _ _ ho.2.2.2 l x r rfl
    have hlt := ord_r ho h2
    exact ⟨by rw [at_, if_neg (by (first | lia | omega)), if_neg (by (first | lia | omega))]; exact h1, by rw [Tr.keys]; simp [h2]⟩
theorem plc_at {pss : List (List Int)} {y : Int} (h : y ∈ pss.flatten) : ∃ q, pss[numP pss y]? = some q ∧ q[plc pss y]? = some y := by
  obtain ⟨h1, h2⟩ := numP_lt h
  refine ⟨pss[numP pss y], List.getElem?_eq_getElem h1, ?_⟩
  have hg : pss.getD (numP pss y) [] = pss[numP pss y] := by rw [List.getD_eq_getElem?_getD, List.getElem?_eq_getElem h1]; rfl
  rw [hg] at h2
  unfold plc
  rw [hg]
  have hi : pss[numP pss y].idxOf y < pss[numP pss y].length := List.idxOf_lt_length_iff.mpr h2
  rw [List.getElem?_eq_getElem hi, List.getElem_idxOf hi]
theorem Rws.at {t : Tr} {pss : List (List Int)} {H : Hp} : ∀ {bs : List Addr} {qs : List (List Int)} {i : Nat} {q : List Int}, Rws t pss H bs qs → qs[i]? = some q → ∃ b vs, bs[i]? = some b ∧ H b = some (.lst vs) ∧ Reps H vs (q.map (slotD t pss))
  | [], [], i, q, _, hq => by simp at hq
  | [], _ :: _, _, _, h, _ => h.elim
  | _ :: _, [], i, q, _, hq => by simp at hq
  | b :: bs, q' :: qs, 0, q, ⟨⟨vs, h1, h2⟩, h3⟩, hq => by
    rw [List.getElem?_cons_zero] at hq
    cases hq
    exact ⟨b, vs, rfl, h1, h2⟩
  | b :: bs, q' :: qs, i + 1, q, ⟨_, h3⟩, hq => by
    rw [List.getElem?_cons_succ] at hq
    obtain ⟨b', vs, g1, g2, g3⟩ := Rws.at h3 hq
    exact ⟨b', vs, by rw [List.getElem?_cons_succ]; exact g1, g2, g3⟩
theorem dn_nil : ∀ t : Tr, Dn t .nil
  | .nil => .refl _
  | .node l _ _ => .l (dn_nil l)
theorem ne_open {H : Hp} {n : Int} {v5 : V} {Q : VK} (h : v5 = .non ∨ ∃ p : Int, v5 = .int p ∧ p ≠ n) (q : Q (.bl true) H) : rNeG 150 (.int n) v5 H Q := by
  rcases h with rfl | ⟨p, rfl, hp⟩
  · exact ⟨.int n, .non, .int n, .non, rfl, rfl, Nat.zero_le _, q⟩
  · show Q (.bl (!decide (n = p))) H
    rw [decide_eq_false (fun z => hp z.symm)]; exact q
theorem reps_at {H : Hp} : ∀ {vs : List V} {ds : List D} {i : Nat} {d : D}, Reps H vs ds → ds[i]? = some d → ∃ v, vs[i]? = some v ∧ Rep H v d
  | _, _, i, d, .nil, h => by simp at h
  | _, _, 0, d, .cons h1 _, h => by
    rw [List.getElem?_cons_zero] at h
    cases h
    exact ⟨_, rfl, h1⟩
  | _, _, i + 1, d, .cons h1 h2, h => by
    rw [List.getElem?_cons_succ] at h
    obtain ⟨v, g1, g2⟩ := reps_at h2 h
    exact ⟨v, by rw [List.getElem?_cons_succ]; exact g1, g2⟩
structure RdOk (P : Program) (w : World) (K : PySem.W.Frag) (mg : Str → Option Value) (base : Heap) (B : Hp) (f notes : Addr) (t : Tr) (pss : List (List Int)) (top : V) : Prop where
  ex : ∃ (c' L : Addr) (fd : FuncData) (rows : Addr) (bs : List Addr), FnOk P w K mg base CX0 1 f fd ["_law_number"] (spTells f c' L fd rows notes) ∧ Binds K fd ["_law_number"] [] ∧ RdS B f c' L fd rows notes ∧ B rows = some (.lst (bs.map V.ref)) ∧ Rws t pss B bs pss
  nn : B notes = none
  top : Rep B top (spotO pss (topK t))
  ord : t.ord none none
  ht : t.ht ≤ 500
  nd : pss.flatten.Nodup
  key : ∀ y ∈ t.keys, y ∈ pss.flatten
noncomputable def np (pss : List (List Int)) (ys : List Int) : List Int := ys.map (fun y => (numP pss y : Int))
noncomputable def spAlong (P : Program) (w : World) (K : PySem.W.Frag) (mg : Str → Option Value) (base : Heap) : Sp := fun vs H Q _ => ∃ (f : Addr) (v : V) (k : Int) (notes : Addr) (t : Tr) (pss : List (List Int)) (ns0 : List V), vs = [.ref f, v, .int k] ∧ RdOk P w K mg base (rm notes H) f notes t pss v ∧ H notes = some (.lst ns0) ∧ ns0.length ≤ 400 ∧
  ∀ l H', H l = none → Same (rm notes H) H' → H' notes = some (.lst (ns0 ++ (rn (along t pss k)).map V.int)) → H' l = some (.lst ((way k t).map V.int)) → Q (.ref l) H'
noncomputable def Opn (t : Tr) (pss : List (List Int)) (B H' : Hp) (l1 notes : Addr) (ys : List Int) (v5 v6 : V) : Prop := (v5 = .non ∧ ys = []) ∨ ∃ (p : Nat) (sl : Addr) (ws : List V) (q : List Int), v5 = .int p ∧ v6 = .ref sl ∧ (rn (np pss ys)).getLast? = some (p : Int) ∧ H' sl = some (.lst ws) ∧ pss[p]? = some q ∧ Reps B ws (q.map (slotD t pss)) ∧ sl ≠ l1 ∧ sl ≠ notes
section
variable {P : Program} {w : World} {K : PySem.W.Frag} {mg : Str → Option Value} {base : Heap}
theorem ok_along {f : Addr} (F : Fd K mg "keys_along" s_keys_along f) (T : Tx K mg) (C_spot_towards : Cal P w K mg base CX0 1 "spot_towards" spToward) : Cal P w K mg base CX0 2 "keys_along" (spAlong P w K mg base) := by
  refine F.cal sc_keys_along (fun _ _ _ _ _ _ us hl => L3.bind3 (fun _ _ _ => rfl) us hl) (fun vs H Q E h => ?_) (fun cdv A outer s H vs Q E hr h => ?_)
  · obtain ⟨f, v, k, notes, t, pss, ns0, rfl, _⟩ := h; rfl
  · obtain ⟨g, v, k, notes, t, pss, ns0, rfl, ⟨⟨c', L, fd, rows, bs, FT, bi, R, er, rws⟩, nn, htop, ho, hht, hnd, hkey⟩, en, hn0, q⟩ := h
    have hwl := way_len k t
    generalize hB : rm notes H = B at *
    have sB : Same B H := by rw [← hB]; exact rm_same
    refine ⟨_, (bcons (sset (i := 3) sc_keys_along.nd rfl (by first | exact Or.inl rfl | exact Or.inr rfl) (qlst qnil))
      (bcons (sset (i := 4) sc_keys_along.nd rfl (by first | exact Or.inl rfl | exact Or.inr rfl) (qv 1))
      (bcons (sset (i := 5) sc_keys_along.nd rfl (by first | exact Or.inl rfl | exact Or.inr rfl) qnon)
      (bcons (sset (i := 6) sc_keys_along.nd rfl (by first | exact Or.inl rfl | exact Or.inr rfl) (qlst qnil))
      (bcons (swhile PassesOwn.never (tcmp rIsNot (qv 4) qnon (nomark _))
        (bcons (sif (tcmp (rNeq hr) (qix (xIx K) (qv 4) qint (fun _ _ => rfl)) (qv 5) (nomark _)) (bcons (sset (i := 5) sc_keys_along.nd rfl (by first | exact Or.inl rfl | exact Or.inr rfl) (qix (xIx K) (qv 4) qint (fun _ _ => rfl)))
          (bone (sset (i := 6) sc_keys_along.nd rfl (by first | exact Or.inl rfl | exact Or.inr rfl) (qFv 0 (qcons (qv 5) qnil))))) bnil)
        (bcons (sset (i := 7) sc_keys_along.nd rfl (by first | exact Or.inl rfl | exact Or.inr rfl) (qix (xIx K) (qv 6) (qix (xIx K) (qv 4) qint (fun _ _ => rfl)) (fun _ _ => rfl)))
        (bcons (sexpr (qBm K PySem.F.plainAttrs_list PySem.F.slot_list_append PySem.F.type_list_append mAppend (qv 3) (qcons (qix (xIx K) (qv 7) qint (fun _ _ => rfl)) qnil)))
        (bone (sset (i := 4) sc_keys_along.nd rfl (by first | exact Or.inl rfl | exact Or.inr rfl) (qF C_spot_towards (hr.mono (by (first | lia | omega))) pass0 rfl (qcons (qv 7) (qcons (qv 2) qnil)))))))))
      (bone (sret (qv 3)))))))), ?_⟩
    refine ⟨(show 0 ≤ sizeLine by decide), fun l1 H1 n1 s1 e1 _ => ?_⟩
    have Bl : B l1 = none := by rw [← hB]; exact rm_fresh n1
    have hl1n : l1 ≠ notes := fun z => by rw [z, en] at n1; cases n1
    refine ⟨_, rfl, ?_⟩
    refine ⟨(show 0 ≤ sizeLine by decide), fun l2 H2 n2 s2 e2 _ => ?_⟩
    refine ⟨fun m σ H' => ∃ (v' v5 v6 : V) (z7 : Option V) (t' : Tr) (ys : List Int), σ = [some (.ref g), some v, some (.int k), some (.ref l1), some v', some v5, some v6, z7] ∧ Same B H' ∧ H' l1 = some (.lst (ys.map V.int)) ∧ H' notes = some (.lst (ns0 ++ (rn (np pss ys)).map V.int)) ∧ Rep B v' (spotO pss (topK t')) ∧ Dn t t' ∧ ys ++ way k t' = way k t ∧ Opn t pss B H' l1 notes ys v5 v6 ∧ m = t'.ht,
      ⟨_, v, .non, .ref l2, none, t, [], rfl, sB.trans (s1.trans s2), s2 _ _ e1, by rw [show rn (np pss []) = [] from rfl, List.map_nil, List.append_nil]; exact s2 _ _ (s1 _ _ en), htop, .refl t, rfl, .inl ⟨rfl, rfl⟩, rfl⟩, ?_⟩
    rintro m σ H3 ⟨v', v5, v6, z7, t', ys, rfl, s3, e3, en3, hv', hdn, hw, hop, rfl⟩
    have hyl : ys.length ≤ 501 := by
      have := congrArg List.length hw
      rw [List.length_append] at this
      (first | lia | omega)
    have hrl : (rn (np pss ys)).length ≤ 501 := by
      have := rn_len (np pss ys)
      have h2 : (np pss ys).length = ys.length := List.length_map _
      (first | lia | omega)
    cases t' with
    | nil =>
      cases hv'
      rw [way, List.append_nil] at hw
      refine ⟨_, rfl, rfl, _, rfl, ?_⟩
      rw [hw] at e3 en3
      exact ⟨_, rfl, q l1 H3 n1 s3 en3 e3⟩
    | node l x r =>
      obtain ⟨hat, hxk⟩ := hdn.at none none ho l x r rfl
      obtain ⟨q', hq', hplc⟩ := plc_at (hkey x hxk)
      obtain ⟨sp, vs, rfl, esp, rs⟩ := rep_tup (show Rep B v' (.tup [.int (numP pss x : Int), .int (plc pss x : Int)]) from hv')
      cases rs with
      | cons h1 r1 =>
      cases r1 with
      | cons h2 r2 =>
      cases r2; cases h1; cases h2
      have esp3 := s3 _ _ esp
      refine ⟨_, rfl, rfl, _, rfl, ?_⟩
      refine iteT ?_
      refine ⟨fun σ' H' => ∃ m', m' < (Tr.node l x r).ht ∧ ∃ (v' v5 v6 : V) (z7 : Option V) (t' : Tr) (ys : List Int), σ' = [some (.ref g), some v, some (.int k), some (.ref l1), some v', some v5, some v6, z7] ∧ Same B H' ∧ H' l1 = some (.lst (ys.map V.int)) ∧ H' notes = some (.lst (ns0 ++ (rn (np pss ys)).map V.int)) ∧ Rep B v' (spotO pss (topK t')) ∧ Dn t t' ∧ ys ++ way k t' = way k t ∧ Opn t pss B H' l1 notes ys v5 v6 ∧ m' = t'.ht, fun _ _ z => z, ?_⟩
      -- the page lies open, or is turned to
      apply join (fun σ' H' => ∃ (sl : Addr) (ws : List V), σ' = [some (.ref g), some v, some (.int k), some (.ref l1), some (.ref sp), some (.int (numP pss x : Int)), some (.ref sl), z7] ∧ Same B H' ∧ H' l1 = some (.lst (ys.map V.int)) ∧ H' notes = some (.lst (ns0 ++ (rn (np pss (ys ++ [x]))).map V.int)) ∧ H' sl = some (.lst ws) ∧ Reps B ws (q'.map (slotD t pss)) ∧ sl ≠ l1 ∧ sl ≠ notes)
      case h2 =>
        intro hj
        have hsn : np pss (ys ++ [x]) = np pss ys ++ [(numP pss x : Int)] := by unfold np; rw [List.map_append]; rfl
        have hcase : (∃ sl ws, v5 = .int (numP pss x : Int) ∧ v6 = .ref sl ∧ (rn (np pss ys)).getLast? = some (numP pss x : Int) ∧ H3 sl = some (.lst ws) ∧ Reps B ws (q'.map (slotD t pss)) ∧ sl ≠ l1 ∧ sl ≠ notes) ∨ ((rn (np pss ys)).getLast? ≠ some (numP pss x : Int) ∧ (v5 = .non ∨ ∃ p : Int, v5 = .int p ∧ p ≠ (numP pss x : Int))) := by
          rcases hop with ⟨rfl, rfl⟩ | ⟨p, sl, ws, q2, rfl, rfl, hlast, esl, hqp, hreps, h1, h2⟩
          · exact .inr ⟨by simp [np, rn], .inl rfl⟩
          · by_cases hp : p = numP pss x
            · subst hp
              rw [hq'] at hqp
              cases hqp
              exact .inl ⟨sl, ws, rfl, rfl, hlast, esl, hreps, h1, h2⟩
            · have hp' : (p : Int) ≠ (numP pss x : Int) := fun z => hp (by (first | lia | omega))
              exact .inr ⟨fun z => hp' (by rw [hlast] at z; exact Option.some.inj z), .inr ⟨_, rfl, hp'⟩⟩
        refine ⟨_, rfl, sp, _, 0, _, rfl, rfl, .inr (SqT.of esp3), atI_nat (j := 0) rfl, _, rfl, ?_⟩
        rcases hcase with ⟨sl, ws, rfl, rfl, hlast, esl, hreps, h1, h2⟩ | ⟨hlast, hv5⟩
        · refine ⟨_, rfl, ?_⟩
          rw [decide_eq_true rfl]
          refine iteF ?_
          exact hj _ _ ⟨sl, ws, rfl, s3, e3, by rw [hsn, rn_snoc, rnS, if_pos hlast]; exact en3, esl, hreps, h1, h2⟩
        · refine ne_open hv5 ?_
          refine ⟨_, rfl, ?_⟩
          refine iteT ?_
          obtain ⟨b, ws, hb, eb, hreps⟩ := rws.at hq'
          have R3 := R.mono s3
          refine ⟨_, rfl, sp, _, 0, _, rfl, rfl, .inr (SqT.of esp3), atI_nat (j := 0) rfl, ?_⟩
          refine ⟨g, fd, rfl, R3.fn, _, rfl, R3.fn, 1, _, _, FT, hr.mono (by (first | lia | omega)), bi, numP pss x, _, bs, b, ws, rfl, R3, en3, by rw [List.length_append, List.length_map]; (first | lia | omega), s3 _ _ er, hb, s3 _ _ eb, (fun z => by rw [z, nn] at er; cases er), (fun z => by rw [z, nn] at eb; cases eb), fun H4 s4 en4 er4 => ?_⟩
          refine hj _ _ ⟨b, ws, rfl, (rm_of s3 nn).trans s4, rm_look s4 e3 hl1n, ?_, er4, hreps, fun z => ?_, fun z => ?_⟩
          · rw [hsn, rn_snoc, rnS, if_neg hlast, List.map_append, ← List.append_assoc]; exact en4
          · rw [z, Bl] at eb; cases eb
          · rw [z, nn] at eb; cases eb
      rintro σ H5 ⟨sl, ws, rfl, s5, e5, en5, esl, rws5, hs1, hs2⟩
      have hpl : (q'.map (slotD t pss))[plc pss x]? = some (slotD t pss x) := by rw [List.getElem?_map, hplc]; rfl
      obtain ⟨sv, hsv, gsv⟩ := reps_at rws5 hpl
      have gsv' : Rep B sv (.tup [.int x, spotO pss (topK l), spotO pss (topK r)]) := by
        have := gsv
        unfold slotD at this
        rw [hat] at this
        exact this
      obtain ⟨sa, vs, rfl, esa, rs⟩ := rep_tup gsv'
      cases rs with
      | cons h1 r1 =>
      cases r1 with
      | @cons v1 _ _ _ g1 r2 =>
      cases r2 with
      | @cons v2 _ _ _ g2 r3 =>
      cases r3; cases h1
      refine ⟨_, rfl, _, rfl, sp, _, 1, _, rfl, rfl, .inr (SqT.of (s5 _ _ esp)), atI_nat (j := 1) rfl, sl, _, _, _, rfl, rfl, .inl (SqL.of esl), atI_nat hsv, ?_⟩
      refine ⟨_, rfl, .inl ⟨rfl, _, SqL.of e5⟩, _, rfl, sa, _, 0, _, rfl, rfl, .inr (SqT.of (s5 _ _ esa)), atI_nat (j := 0) rfl, l1, _, _, rfl, rfl, e5, sizeBig (by rw [List.length_map]; (first | lia | omega)), ?_⟩
      have sA := same_upd (o := .lst (ys.map V.int ++ [.int x])) s5 Bl
      have eA : upd H5 l1 (.lst (ys.map V.int ++ [.int x])) l1 = some (.lst ((ys ++ [x]).map V.int)) := by rw [List.map_append]; exact upd_same
      have enA : upd H5 l1 (.lst (ys.map V.int ++ [.int x])) notes = some (.lst (ns0 ++ (rn (np pss (ys ++ [x]))).map V.int)) := by rw [upd_ne hl1n.symm]; exact en5
      have eslA : upd H5 l1 (.lst (ys.map V.int ++ [.int x])) sl = some (.lst ws) := by rw [upd_ne hs1]; exact esl
      have hlast : (rn (np pss (ys ++ [x]))).getLast? = some (numP pss x : Int) := by
        have : np pss (ys ++ [x]) = np pss ys ++ [(numP pss x : Int)] := by unfold np; rw [List.map_append]; rfl
        rw [this, rn_snoc]; exact rnS_last _ _
      generalize upd H5 l1 (.lst (ys.map V.int ++ [.int x])) = H6 at *
      have hopn : Opn t pss B H6 l1 notes (ys ++ [x]) (.int (numP pss x : Int)) (.ref sl) := .inr ⟨numP pss x, sl, ws, q', rfl, rfl, hlast, eslA, hq', rws5, hs1, hs2⟩
      refine ⟨_, rfl, _, rfl, sa, v1, v2, x, k, rfl, sA _ _ esa, ?_⟩
      by_cases hx : x = k
      · rw [way, if_pos hx] at hw
        rw [if_pos hx.symm]
        refine ⟨_, ?_, .non, _, _, _, .nil, ys ++ [x], rfl, sA, eA, enA, .non, hdn.trans (dn_nil _), by rw [← hw, way, List.append_nil, hx], hopn, rfl⟩
        rw [Tr.ht, Tr.ht]; (first | lia | omega)
      · rw [way, if_neg hx] at hw
        rw [if_neg (fun z => hx z.symm)]
        by_cases hk : k < x
        · rw [if_pos hk] at hw ⊢
          refine ⟨_, ?_, v1, _, _, _, l, ys ++ [x], rfl, sA, eA, enA, g1, hdn.trans (.l (.refl l)), by rw [← hw, List.append_assoc]; rfl, hopn, rfl⟩
          rw [Tr.ht]; (first | lia | omega)
        · rw [if_neg hk] at hw ⊢
          refine ⟨_, ?_, v2, _, _, _, r, ys ++ [x], rfl, sA, eA, enA, g2, hdn.trans (.r (.refl r)), by rw [← hw, List.append_assoc]; rfl, hopn, rfl⟩
          rw [Tr.ht]; (first | lia | omega)
end
end K36
namespace K36
open PySem L2 L3
noncomputable def BL (xs : List Int) (k : Int) (v : V) : Prop := (v = .non ∧ ∀ y ∈ xs, ¬ y ≤ k) ∨ ∃ M, v = .int M ∧ M ∈ xs ∧ M ≤ k ∧ ∀ y ∈ xs, y ≤ k → y ≤ M
noncomputable def BU (xs : List Int) (k : Int) (v : V) : Prop := (v = .non ∧ ∀ y ∈ xs, ¬ k ≤ y) ∨ ∃ M, v = .int M ∧ M ∈ xs ∧ k ≤ M ∧ ∀ y ∈ xs, k ≤ y → M ≤ y
theorem BL.uniq {xs : List Int} {k : Int} {v u : V} (h : BL xs k v) (h' : BL xs k u) : v = u := by
  rcases h with ⟨rfl, h⟩ | ⟨M, rfl, h1, h2, h3⟩ <;> rcases h' with ⟨rfl, h'⟩ | ⟨N, rfl, g1, g2, g3⟩
  · rfl
  · exact absurd g2 (h N g1)
  · exact absurd h2 (h' M h1)
  · have a := h3 N g1 g2
    have b := g3 M h1 h2
    rw [show M = N by (first | lia | omega)]
theorem BU.uniq {xs : List Int} {k : Int} {v u : V} (h : BU xs k v) (h' : BU xs k u) : v = u := by
  rcases h with ⟨rfl, h⟩ | ⟨M, rfl, h1, h2, h3⟩ <;> rcases h' with ⟨rfl, h'⟩ | ⟨N, rfl, g1, g2, g3⟩
  · rfl
  · exact absurd g2 (h N g1)
  · exact absurd h2 (h' M h1)
  · have a := h3 N g1 g2
    have b := g3 M h1 h2
    rw [show M = N by (first | lia | omega)]
theorem way_low (k : Int) : ∀ (t : Tr) (lo hi : Option Int), t.ord lo hi → ∀ y ∈ t.keys, y ≤ k → ∃ z ∈ way k t, y ≤ z ∧ z ≤ k
  | .nil, _, _, _, y, hy, _ => by simp [Tr.keys] at hy
  | .node l x r, lo, hi, ho, y, hy, hk => by
    rw [way]
    by_cases hx : x = k
    · rw [if_pos hx]; exact ⟨k, by simp, hk, Int.le_refl _⟩
    · rw [if_neg hx]
      rw [Tr.keys] at hy
      simp only [List.mem_append, List.mem_cons, List.not_mem_nil, or_false] at hy
      by_cases hkx : k < x
      · rw [if_pos hkx]
        have hyl : y ∈ l.keys := by
          rcases hy with (h | h) | h
          · exact h
          · (first | lia | omega)
          · have := ord_r ho h; (first | lia | omega)
        obtain ⟨z, h1, h2⟩ := way_low k l _ _ ho.2.2.1 y hyl hk
        exact ⟨z, List.mem_cons_of_mem _ h1, h2⟩
      · rw [if_neg hkx]
        rcases hy with (h | h) | h
        · have := ord_l ho h
          exact ⟨x, by simp, by (first | lia | omega), by (first | lia | omega)⟩
        · exact ⟨x, by simp, by (first | lia | omega), by (first | lia | omega)⟩
        · obtain ⟨z, h1, h2⟩ := way_low k r _ _ ho.2.2.2 y h hk
          exact ⟨z, List.mem_cons_of_mem _ h1, h2⟩
theorem way_upp (k : Int) : ∀ (t : Tr) (lo hi : Option Int), t.ord lo hi → ∀ y ∈ t.keys, k ≤ y → ∃ z ∈ way k t, z ≤ y ∧ k ≤ z
  | .nil, _, _, _, y, hy, _ => by simp [Tr.keys] at hy
  | .node l x r, lo, hi, ho, y, hy, hk => by
    rw [way]
    by_cases hx : x = k
    · rw [if_pos hx]; exact ⟨k, by simp, hk, Int.le_refl _⟩
    · rw [if_neg hx]
      rw [Tr.keys] at hy
      simp only [List.mem_append, List.mem_cons, List.not_mem_nil, or_false] at hy
      by_cases hkx : k < x
      · rw [if_pos hkx]
        rcases hy with (h | h) | h
        · obtain ⟨z, h1, h2⟩ := way_upp k l _ _ ho.2.2.1 y h hk
          exact ⟨z, List.mem_cons_of_mem _ h1, h2⟩
        · exact ⟨x, by simp, by (first | lia | omega), by (first | lia | omega)⟩
        · have := ord_r ho h
          exact ⟨x, by simp, by (first | lia | omega), by (first | lia | omega)⟩
      · rw [if_neg hkx]
        have hyr : y ∈ r.keys := by
          rcases hy with (h | h) | h
          · have := ord_l ho h; (first | lia | omega)
          · (first | lia | omega)
          · exact h
        obtain ⟨z, h1, h2⟩ := way_upp k r _ _ ho.2.2.2 y hyr hk
        exact ⟨z, List.mem_cons_of_mem _ h1, h2⟩
theorem way_own {k : Int} {t : Tr} (ho : t.ord none none) : k ∈ way k t ↔ k ∈ t.keys := by
  refine ⟨way_sub k t k, fun h => ?_⟩
  obtain ⟨z, h1, h2, h3⟩ := way_low k t _ _ ho k h (Int.le_refl _)
  rwa [show z = k by (first | lia | omega)] at h1
theorem BL.keys {t : Tr} {k : Int} {v : V} (ho : t.ord none none) (h : BL (way k t) k v) : BL t.keys k v := by
  rcases h with ⟨rfl, h⟩ | ⟨M, rfl, h1, h2, h3⟩
  · refine .inl ⟨rfl, fun y hy hk => ?_⟩
    obtain ⟨z, g1, _, g3⟩ := way_low k t _ _ ho y hy hk
    exact h z g1 g3
  · refine .inr ⟨M, rfl, way_sub k t M h1, h2, fun y hy hk => ?_⟩
    obtain ⟨z, g1, g2, g3⟩ := way_low k t _ _ ho y hy hk
    have := h3 z g1 g3
    (first | lia | omega)
theorem BU.keys {t : Tr} {k : Int} {v : V} (ho : t.ord none none) (h : BU (way k t) k v) : BU t.keys k v := by
  rcases h with ⟨rfl, h⟩ | ⟨M, rfl, h1, h2, h3⟩
  · refine .inl ⟨rfl, fun y hy hk => ?_⟩
    obtain ⟨z, g1, _, g3⟩ := way_upp k t _ _ ho y hy hk
    exact h z g1 g3
  · refine .inr ⟨M, rfl, way_sub k t M h1, h2, fun y hy hk => ?_⟩
    obtain ⟨z, g1, g2, g3⟩ := way_upp k t _ _ ho y hy hk
    have := h3 z g1 g3
    (first | lia | omega)
noncomputable def fLo (k : Int) (xs : List Int) : List Int := xs.filter fun y => decide (y ≤ k)
noncomputable def fUp (k : Int) (xs : List Int) : List Int := xs.filter fun y => decide (y ≥ k)
theorem fLo_succ {k : Int} {xs : List Int} {i : Nat} {y : Int} (h : xs[i]? = some y) : fLo k (xs.take (i + 1)) = fLo k (xs.take i) ++ (if y ≤ k then [y] else []) := by
  unfold fLo
  rw [List.take_add_one, h, List.filter_append]
  by_cases hy : y ≤ k <;> simp [hy]
theorem fUp_succ {k : Int} {xs : List Int} {i : Nat} {y : Int} (h : xs[i]? = some y) : fUp k (xs.take (i + 1)) = fUp k (xs.take i) ++ (if y ≥ k then [y] else []) := by
  unfold fUp
  rw [List.take_add_one, h, List.filter_append]
  by_cases hy : k ≤ y <;> simp [hy]
theorem fLo_len (k : Int) (xs : List Int) : (fLo k xs).length ≤ xs.length := List.length_filter_le _ _
theorem fUp_len (k : Int) (xs : List Int) : (fUp k xs).length ≤ xs.length := List.length_filter_le _ _
theorem fLo_mem {k : Int} {xs : List Int} {y : Int} : y ∈ fLo k xs ↔ y ∈ xs ∧ y ≤ k := by simp [fLo]
theorem fUp_mem {k : Int} {xs : List Int} {y : Int} : y ∈ fUp k xs ↔ y ∈ xs ∧ k ≤ y := by simp [fUp]
noncomputable def spLooked (P : Program) (w : World) (K : PySem.W.Frag) (mg : Str → Option Value) (base : Heap) : Sp := fun vs H Q _ => ∃ (f : Addr) (v : V) (k : Int) (notes : Addr) (t : Tr) (pss : List (List Int)) (ns0 : List V), vs = [.ref f, v, .int k] ∧ RdOk P w K mg base (rm notes H) f notes t pss v ∧ H notes = some (.lst ns0) ∧ ns0.length ≤ 400 ∧
  ∀ H', Same (rm notes H) H' → H' notes = some (.lst (ns0 ++ (rn (along t pss k)).map V.int)) → Q (.bl (decide (k ∈ t.keys))) H'
noncomputable def spNearest (P : Program) (w : World) (K : PySem.W.Frag) (mg : Str → Option Value) (base : Heap) : Sp := fun vs H Q _ => ∃ (f : Addr) (v : V) (k : Int) (notes : Addr) (t : Tr) (pss : List (List Int)) (ns0 : List V), vs = [.ref f, v, .int k] ∧ RdOk P w K mg base (rm notes H) f notes t pss v ∧ H notes = some (.lst ns0) ∧ ns0.length ≤ 400 ∧
  ∀ r lo up H', H r = none → Same (rm notes H) H' → H' notes = some (.lst (ns0 ++ (rn (along t pss k)).map V.int)) → H' r = some (.tup [lo, up]) → BL t.keys k lo → BU t.keys k up → Q (.ref r) H'
section
variable {P : Program} {w : World} {K : PySem.W.Frag} {mg : Str → Option Value} {base : Heap}
theorem ok_looked {f : Addr} (F : Fd K mg "looked_up" s_looked_up f) (T : Tx K mg) (C_keys_along : Cal P w K mg base CX0 2 "keys_along" (spAlong P w K mg base)) : Cal P w K mg base CX0 3 "looked_up" (spLooked P w K mg base) := by
  refine F.cal sc_looked_up (fun _ _ _ _ _ _ us hl => L3.bind3 (fun _ _ _ => rfl) us hl) (fun vs H Q E h => ?_) (fun cdv A outer s H vs Q E hr h => ?_)
  · obtain ⟨f, v, k, notes, t, pss, ns0, rfl, _⟩ := h; rfl
  · obtain ⟨g, v, k, notes, t, pss, ns0, rfl, ok, en, hn0, q⟩ := h
    refine ⟨_, (bone (sret (qcmp (rInn K) (qv 2) (qF C_keys_along (hr.mono (by (first | lia | omega))) pass0 rfl (qcons (qv 0) (qcons (qv 1) (qcons (qv 2) qnil)))) (by with_unfolding_all rfl)))), ?_⟩
    refine ⟨_, rfl, _, rfl, _, rfl, _, rfl, g, v, k, notes, t, pss, ns0, rfl, ok, en, hn0, fun l H1 n1 s1 en1 e1 => ?_⟩
    refine ⟨l, _, rfl, .inl (SqL.of e1), rfl, flat_ints _, ?_⟩
    rw [if_neg (show ¬ (false = true) by decide), inV_ints]
    have := q H1 s1 en1
    rwa [show decide (k ∈ t.keys) = decide (k ∈ way k t) from decide_eq_decide.mpr (way_own ok.ord).symm] at this
theorem ok_nearest {f : Addr} (F : Fd K mg "nearest" s_nearest f) (T : Tx K mg) (C_keys_along : Cal P w K mg base CX0 2 "keys_along" (spAlong P w K mg base)) : Cal P w K mg base CX0 3 "nearest" (spNearest P w K mg base) := by
  refine F.cal sc_nearest (fun _ _ _ _ _ _ us hl => L3.bind3 (fun _ _ _ => rfl) us hl) (fun vs H Q E h => ?_) (fun cdv A outer s H vs Q E hr h => ?_)
  · obtain ⟨f, v, k, notes, t, pss, ns0, rfl, _⟩ := h; rfl
  · obtain ⟨g, v, k, notes, t, pss, ns0, rfl, ok, en, hn0, q⟩ := h
    have hwl := way_len k t
    have hht := ok.ht
    refine split 2 (fun σ' H' => ∃ (v4 : V) (l : Addr), σ' = [some (.ref g), some v, some (.int k), some (.ref l), some v4, none] ∧ Same (rm notes H) H' ∧ (∀ b, H' b = none → H b = none) ∧ H' notes = some (.lst (ns0 ++ (rn (along t pss k)).map V.int)) ∧ H' l = some (.lst ((way k t).map V.int)) ∧ BL (way k t) k v4) ?h2 ?h1
    case h2 =>
      refine ⟨_, (bcons (sset (i := 5) sc_nearest.nd rfl (by first | exact Or.inl rfl | exact Or.inr rfl) (qMinN K rfl T.b_min bt_min (qcons (qcomp (sc := defScope s_nearest) (NX := ["read", "top", "key", "way", "lower", "upper"]) ["knot", "key"] [none, some 2] rfl (iseq K (qv 3)) (fun _ _ _ => (gname (i := 0) (show (["knot", "key"] : List Str).Nodup by decide +kernel) rfl (by first | exact Or.inl rfl | exact Or.inr rfl))) (fun _ _ _ => (csone (tcmp rGe (qv 0) (qv 1) (nomark _)))) (fun _ _ _ => (qv 0)) rfl rfl (by decide +kernel)) qnil) qnon))
      (bone (sret (qtup (qcons (qv 4) (qcons (qv 5) qnil)))))), ?_⟩
      rintro σ' H1 ⟨v4, l, rfl, s1, fr1, en1, e1, hb4⟩
      refine ⟨_, rfl, l, rfl, .inl ⟨⟨_, SqL.of e1⟩, fun acc ha => ?_⟩⟩
      refine comp_list (xs := (way k t).map V.int) (fun i zs σ H' => ∃ z, σ = [z, some (.int k)] ∧ Same H1 H' ∧ H' acc = some (.lst zs) ∧ zs = (fUp k ((way k t).take i)).map V.int) ⟨none, rfl, same_new ha, upd_same, rfl⟩ (fun i zs σ H' hh => by obtain ⟨_, _, s', _⟩ := hh; exact SqL.of (s' _ _ e1)) ?_ ?_
      · rintro i zs y σ H5 hy hi ⟨z, rfl, s5, e5, rfl⟩
        rw [List.getElem?_map] at hy
        obtain ⟨n, hn, rfl⟩ := Option.map_eq_some_iff.mp hy
        have hfl := fUp_len k ((way k t).take i)
        rw [List.length_take] at hfl
        refine ⟨_, rfl, _, rfl, _, _, rfl, rfl, _, rfl, ?_⟩
        by_cases hle : k ≤ n
        · rw [decide_eq_true hle]
          refine iteT ?_
          refine ⟨_, rfl, ?_⟩
          refine cpost e5 (sizeBig (by rw [List.length_map]; (first | lia | omega))) hi ?_
          exact ⟨_, rfl, same_upd s5 ha, upd_same, by rw [fUp_succ hn, if_pos hle, List.map_append]; rfl⟩
        · rw [decide_eq_false hle]
          refine iteF ?_
          refine cskip hi (ys := (fUp k ((way k t).take i)).map V.int) ?_
          exact ⟨_, rfl, s5, e5, by rw [fUp_succ hn, if_neg hle, List.append_nil]⟩
      rintro zs σ H5 ⟨z, rfl, s5, e5, rfl⟩
      rw [List.length_map, List.take_length] at e5
      refine ⟨acc, _, rfl, SqL.of e5, fun h0 => ?a, fun M hM hmax => ?b⟩
      case a =>
        refine ⟨_, rfl, _, rfl, (show 2 ≤ sizeLine by decide), fun r6 H6 n6 s6 e6 _ => ?_⟩
        refine q r6 v4 .non H6 (fr1 _ (s5.free n6)) (s1.trans (s5.trans s6)) ((s5.trans s6) _ _ en1) e6 (hb4.keys ok.ord) (BU.keys ok.ord (.inl ⟨rfl, fun y hy hk => ?_⟩))
        have : y ∈ fUp k (way k t) := fUp_mem.mpr ⟨hy, hk⟩
        rw [h0] at this; simp at this
      case b =>
        refine ⟨_, rfl, _, rfl, (show 2 ≤ sizeLine by decide), fun r6 H6 n6 s6 e6 _ => ?_⟩
        exact q r6 v4 (.int M) H6 (fr1 _ (s5.free n6)) (s1.trans (s5.trans s6)) ((s5.trans s6) _ _ en1) e6 (hb4.keys ok.ord) (BU.keys ok.ord (.inr ⟨M, rfl, (fUp_mem.mp hM).1, (fUp_mem.mp hM).2, fun y hy hk => hmax y (fUp_mem.mpr ⟨hy, hk⟩)⟩))
    case h1 =>
      intro u pu hu
      refine ⟨_, (bcons (sset (i := 3) sc_nearest.nd rfl (by first | exact Or.inl rfl | exact Or.inr rfl) (qF C_keys_along (hr.mono (by (first | lia | omega))) pass0 rfl (qcons (qv 0) (qcons (qv 1) (qcons (qv 2) qnil)))))
      (bcons (sset (i := 4) sc_nearest.nd rfl (by first | exact Or.inl rfl | exact Or.inr rfl) (qMaxN K rfl T.b_max bt_max (qcons (qcomp (sc := defScope s_nearest) (NX := ["read", "top", "key", "way", "lower", "upper"]) ["knot", "key"] [none, some 2] rfl (iseq K (qv 3)) (fun _ _ _ => (gname (i := 0) (show (["knot", "key"] : List Str).Nodup by decide +kernel) rfl (by first | exact Or.inl rfl | exact Or.inr rfl))) (fun _ _ _ => (csone (tcmp rLe (qv 0) (qv 1) (nomark _)))) (fun _ _ _ => (qv 0)) rfl rfl (by decide +kernel)) qnil) qnon))
      pu)), ?_⟩
      refine ⟨_, rfl, _, rfl, _, rfl, g, v, k, notes, t, pss, ns0, rfl, ok, en, hn0, fun l H1 n1 s1 en1 e1 => ?_⟩
      have frx : ∀ b, H1 b = none → H b = none := fun b hb => by
        have := s1.free hb
        rwa [rm_ne (fun z => by rw [z, en1] at hb; cases hb)] at this
      refine ⟨_, rfl, l, rfl, .inl ⟨⟨_, SqL.of e1⟩, fun acc ha => ?_⟩⟩
      refine comp_list (xs := (way k t).map V.int) (fun i zs σ H' => ∃ z, σ = [z, some (.int k)] ∧ Same H1 H' ∧ H' acc = some (.lst zs) ∧ zs = (fLo k ((way k t).take i)).map V.int) ⟨none, rfl, same_new ha, upd_same, rfl⟩ (fun i zs σ H' hh => by obtain ⟨_, _, s', _⟩ := hh; exact SqL.of (s' _ _ e1)) ?_ ?_
      · rintro i zs y σ H5 hy hi ⟨z, rfl, s5, e5, rfl⟩
        rw [List.getElem?_map] at hy
        obtain ⟨n, hn, rfl⟩ := Option.map_eq_some_iff.mp hy
        have hfl := fLo_len k ((way k t).take i)
        rw [List.length_take] at hfl
        refine ⟨_, rfl, _, rfl, _, _, rfl, rfl, _, rfl, ?_⟩
        by_cases hle : n ≤ k
        · rw [decide_eq_true hle]
          refine iteT ?_
          refine ⟨_, rfl, ?_⟩
          refine cpost e5 (sizeBig (by rw [List.length_map]; (first | lia | omega))) hi ?_
          exact ⟨_, rfl, same_upd s5 ha, upd_same, by rw [fLo_succ hn, if_pos hle, List.map_append]; rfl⟩
        · rw [decide_eq_false hle]
          refine iteF ?_
          refine cskip hi (ys := (fLo k ((way k t).take i)).map V.int) ?_
          exact ⟨_, rfl, s5, e5, by rw [fLo_succ hn, if_neg hle, List.append_nil]⟩
      rintro zs σ H5 ⟨z, rfl, s5, e5, rfl⟩
      rw [List.length_map, List.take_length] at e5
      refine ⟨acc, _, rfl, SqL.of e5, fun h0 => ?a, fun M hM hmax => ?b⟩
      case a =>
        refine hu _ _ ⟨.non, l, rfl, s1.trans s5, fun b hb => frx _ (s5.free hb), s5 _ _ en1, s5 _ _ e1, .inl ⟨rfl, fun y hy hk => ?_⟩⟩
        have : y ∈ fLo k (way k t) := fLo_mem.mpr ⟨hy, hk⟩
        rw [h0] at this; simp at this
      case b =>
        exact hu _ _ ⟨.int M, l, rfl, s1.trans s5, fun b hb => frx _ (s5.free hb), s5 _ _ en1, s5 _ _ e1, .inr ⟨M, rfl, (fLo_mem.mp hM).1, (fLo_mem.mp hM).2, fun y hy hk => hmax y (fLo_mem.mpr ⟨hy, hk⟩)⟩⟩
end
end K36
namespace K36
open PySem L2 L3
variable {ns0 : List V}
structure KD (ns0 : List V) (t : Tr) (pss : List (List Int)) (B H : Hp) (d notes : Addr) (kvs : List (Key × V)) (ps : List Nat) : Prop where
  ed : H d = some (.dK kvs)
  en : H notes = some (.lst (ns0 ++ ps.map fun p : Nat => V.int (p : Int)))
  no : ∀ p : Nat, p ∉ ps → valV kvs (Sum.inl (p : Int) : Key) = none
  yes : ∀ p ∈ ps, ∃ r ws q, valV kvs (Sum.inl (p : Int) : Key) = some (.ref r) ∧ H r = some (.lst ws) ∧ pss[p]? = some q ∧ Reps B ws (q.map (slotD t pss)) ∧ r ≠ notes
  kl : kvs.length ≤ ps.length
  nd : ps.Nodup
noncomputable def Old (H : Hp) (kvs kvs' : List (Key × V)) : Prop := ∀ k r, valV kvs' k = some (.ref r) → valV kvs k = some (.ref r) ∨ H r = none
noncomputable def addP (ps : List Nat) (p : Nat) : List Nat := if p ∈ ps then ps else ps ++ [p]
noncomputable def spSlotAt (P : Program) (w : World) (K : PySem.W.Frag) (mg : Str → Option Value) (base : Heap) : Sp := fun vs H Q _ => ∃ (f d sp : Addr) (B : Hp) (notes : Addr) (t : Tr) (pss : List (List Int)) (top : V) (x : Int) (kvs : List (Key × V)) (ps : List Nat) (ns0 : List V), vs = [.ref f, .ref d, .ref sp] ∧ RdOk P w K mg base B f notes t pss top ∧ B d = none ∧ Same B H ∧ B sp = some (.tup [.int (numP pss x : Int), .int (plc pss x : Int)]) ∧ x ∈ t.keys ∧ KD ns0 t pss B H d notes kvs ps ∧ ps.length ≤ 500 ∧ ns0.length ≤ 400 ∧
  ∀ sv H' kvs', Rep B sv (slotD t pss x) → Same (rm d (rm notes H)) H' → KD ns0 t pss B H' d notes kvs' (addP ps (numP pss x)) → Old H kvs kvs' → Q sv H'
section
variable {P : Program} {w : World} {K : PySem.W.Frag} {mg : Str → Option Value} {base : Heap}
theorem ok_slotAt {f : Addr} (F : Fd K mg "slot_at" s_slot_at f) (T : Tx K mg) : Cal P w K mg base CX0 2 "slot_at" (spSlotAt P w K mg base) := by
  refine F.cal sc_slot_at (fun _ _ _ _ _ _ us hl => L3.bind3 (fun _ _ _ => rfl) us hl) (fun vs H Q E h => ?_) (fun cdv A outer s H vs Q E hr h => ?_)
  · obtain ⟨f, d, sp, B, notes, t, pss, top, x, kvs, ps, ns0, rfl, _⟩ := h; rfl
  · obtain ⟨g, d, sp, B, notes, t, pss, top, x, kvs, ps, ns0, rfl, ⟨⟨c', L, fd, rows, bs, FT, bi, R, er, rws⟩, nn, htop, ho, hht, hnd, hkey⟩, Bd, sB, esp, hxk, kd, hpl, hn0, q⟩ := h
    obtain ⟨q', hq', hplc⟩ := plc_at (hkey x hxk)
    have hdn : d ≠ notes := fun z => by have := kd.ed; rw [z, kd.en] at this; cases this
    refine ⟨_, (bcons (sif (tdnotin hr (qix (xIx K) (qv 2) qint (fun _ _ => rfl)) (qv 1)) (bone (sdput hr (qv 1) (qix (xIx K) (qv 2) qint (fun _ _ => rfl)) (qTy (fList K) rfl T.b_list bt_list (qcons (qFv 0 (qcons (qix (xIx K) (qv 2) qint (fun _ _ => rfl)) qnil)) qnil)) rfl)) bnil)
      (bone (sret (qix (xIx K) (qdget hr (qv 1) (qix (xIx K) (qv 2) qint (fun _ _ => rfl)) (fun _ _ => rfl)) (qix (xIx K) (qv 2) qint (fun _ _ => rfl)) (fun _ _ => rfl))))), ?_⟩
    have esp1 := sB _ _ esp
    apply join (fun σ' H' => ∃ kvs', σ' = [some (.ref g), some (.ref d), some (.ref sp)] ∧ Same (rm d (rm notes H)) H' ∧ KD ns0 t pss B H' d notes kvs' (addP ps (numP pss x)) ∧ Old H kvs kvs')
    case h2 =>
      intro hj
      refine ⟨_, rfl, sp, _, 0, _, rfl, rfl, .inr (SqT.of esp1), atI_nat (j := 0) rfl, _, rfl, ?_⟩
      refine ⟨d, valV kvs (Sum.inl (numP pss x : Int) : Key), rfl, .inl ⟨kvs, Sum.inl (numP pss x : Int), .inl kd.ed, rfl, rfl⟩, ?_⟩
      refine ⟨_, rfl, ?_⟩
      by_cases hin : numP pss x ∈ ps
      · obtain ⟨r, ws, q2, hv, _⟩ := kd.yes _ hin
        rw [hv]
        refine iteF ?_
        exact hj _ _ ⟨kvs, rfl, rm_same.trans rm_same, by rw [addP, if_pos hin]; exact kd, fun _ _ h => .inl h⟩
      · have hv := kd.no _ hin
        rw [hv]
        refine iteT ?_
        obtain ⟨b, ws, hb, eb, hreps⟩ := rws.at hq'
        have R1 := R.mono sB
        refine ⟨g, fd, rfl, R1.fn, _, rfl, sp, _, 0, _, rfl, rfl, .inr (SqT.of esp1), atI_nat (j := 0) rfl, R1.fn, 1, _, _, FT, hr.mono (by (first | lia | omega)), bi, numP pss x, _, bs, b, ws, rfl, R1, kd.en, by rw [List.length_append, List.length_map]; (first | lia | omega), sB _ _ er, hb, sB _ _ eb, (fun z => by rw [z, nn] at er; cases er), (fun z => by rw [z, nn] at eb; cases eb), fun H4 s4 en4 er4 => ?_⟩
        refine ⟨b, ws, rfl, .inl (SqL.of er4), fun r5 H5 n5 s5 e5 _ => ?_⟩
        have ed4 := rm_look s4 kd.ed hdn
        have ed5 := s5 _ _ ed4
        have hr5d : r5 ≠ d := fun z => by rw [z, ed4] at n5; cases n5
        have hr5n : r5 ≠ notes := fun z => by rw [z, en4] at n5; cases n5
        have hkl := kd.kl
        have sp5 : Same B H5 := (rm_of sB nn).trans (s4.trans s5)
        refine ⟨_, rfl, _, rfl, sp, _, 0, _, rfl, rfl, .inr (SqT.of (sp5 _ _ esp)), atI_nat (j := 0) rfl, d, _, rfl, .inl ⟨kvs, Sum.inl (numP pss x : Int), ed5, rfl, sizeBig (by (first | lia | omega)), rfl⟩, ?_⟩
        refine hj _ _ ⟨putK kvs (Sum.inl (numP pss x : Int)) (.ref r5), rfl, same_upd (rm_same.trans (s4.trans s5)) rm_self, ?_, fun k r h => ?_⟩
        rotate_left
        · rw [valV_put] at h
          split at h
          · cases h
            refine .inr ?_
            have hn := s4.free n5
            rwa [rm_ne hr5n] at hn
          · exact .inl h
        rw [addP, if_neg hin]
        refine ⟨upd_same, ?_, fun p hp => ?_, fun p hp => ?_, ?_, ?_⟩
        · rw [upd_ne hdn.symm, List.map_append, ← List.append_assoc]; exact s5 _ _ en4
        · rw [List.mem_append, List.mem_singleton, not_or] at hp
          rw [valV_put, if_neg (fun z => hp.2 (by have := Sum.inl.inj z; (first | lia | omega)))]
          exact kd.no p hp.1
        · rcases List.mem_append.mp hp with hp | hp
          · obtain ⟨r, ws', q2, h1, h2, h3, h4, h5⟩ := kd.yes p hp
            refine ⟨r, ws', q2, ?_, ?_, h3, h4, h5⟩
            · rw [valV_put, if_neg (fun z => hin (by have := Sum.inl.inj z; rw [show numP pss x = p by (first | lia | omega)]; exact hp))]; exact h1
            · rw [upd_ne (fun z => by rw [z, kd.ed] at h2; cases h2)]; exact s5 _ _ (rm_look s4 h2 h5)
          · rw [List.mem_singleton] at hp
            subst hp
            exact ⟨r5, ws, q', by rw [valV_put, if_pos rfl], by rw [upd_ne hr5d]; exact e5, hq', hreps, hr5n⟩
        · rw [putK_new _ hv, List.length_append, List.length_append]; simpa using hkl
        · rw [List.nodup_append]
          exact ⟨kd.nd, by simp, fun a ha b hb z => by rw [List.mem_singleton] at hb; subst hb z; exact hin ha⟩
    rintro σ H2 ⟨kvs', rfl, s2, kd2, hold⟩
    have s2B : Same B H2 := (rm_of (rm_of sB nn) Bd).trans s2
    have hin : numP pss x ∈ addP ps (numP pss x) := by
      unfold addP; split
      · assumption
      · simp
    obtain ⟨r, ws, q2, hv, er2, hq2, hreps, hrn⟩ := kd2.yes _ hin
    rw [hq'] at hq2
    cases hq2
    have hpl2 : (q'.map (slotD t pss))[plc pss x]? = some (slotD t pss x) := by rw [List.getElem?_map, hplc]; rfl
    obtain ⟨sv, hsv, gsv⟩ := reps_at hreps hpl2
    refine ⟨_, rfl, _, rfl, sp, _, 0, _, rfl, rfl, .inr (SqT.of (s2B _ _ esp)), atI_nat (j := 0) rfl, d, _, rfl, .inl ⟨kvs', Sum.inl (numP pss x : Int), .inl kd2.ed, rfl, hv.symm⟩, ?_⟩
    refine ⟨_, rfl, sp, _, 1, _, rfl, rfl, .inr (SqT.of (s2B _ _ esp)), atI_nat (j := 1) rfl, r, _, _, _, rfl, rfl, .inl (SqL.of er2), atI_nat hsv, ?_⟩
    exact q sv H2 kvs' gsv s2 kd2 hold
end
end K36
namespace K36
open PySem L2 L3
variable {ns0 : List V}
theorem nat_nd : ∀ (n : Nat) (ps : List Nat), ps.Nodup → (∀ p ∈ ps, p < n) → ps.length ≤ n
  | 0, [], _, _ => Nat.le_refl _
  | 0, p :: ps, _, h => absurd (h p (by simp)) (by (first | lia | omega))
  | n + 1, ps, nd, h => by
    by_cases hn : n ∈ ps
    · have h1 := List.length_erase_of_mem hn
      have h2 := nat_nd n (ps.erase n) (nd.erase n) fun p hp => by
        have := (nd.mem_erase_iff).mp hp
        have := h p this.2
        (first | lia | omega)
      have := List.length_pos_of_mem hn
      (first | lia | omega)
    · have := nat_nd n ps nd fun p hp => by
        have h1 := h p hp
        have : p ≠ n := fun z => hn (z ▸ hp)
        (first | lia | omega)
      (first | lia | omega)
theorem KD.len {t : Tr} {pss : List (List Int)} {B H : Hp} {d notes : Addr} {kvs : List (Key × V)} {ps : List Nat} (h : KD ns0 t pss B H d notes kvs ps) : ps.length ≤ pss.length :=
  nat_nd _ _ h.nd fun p hp => by
    obtain ⟨_, _, _, _, _, h3, _⟩ := h.yes p hp
    exact (List.getElem?_eq_some_iff.mp h3).1
noncomputable def mid (lo hi : Int) (xs : List Int) : List Int := xs.filter fun y => decide (lo ≤ y) && decide (y ≤ hi)
noncomputable def Wi (t : Tr) (lo hi y : Int) : Prop := (lo ≤ y ∧ y ≤ hi ∧ y ∈ t.keys) ∨ y ∈ way lo t ∨ y ∈ way hi t
noncomputable def Gp (t : Tr) (pss : List (List Int)) (lo hi : Int) (p : Nat) : Prop := ∃ y, numP pss y = p ∧ y ∈ t.keys ∧ Wi t lo hi y
theorem way_head (k : Int) (l r : Tr) (x : Int) : x ∈ way k (.node l x r) := by
  rw [way]; split
  · rename_i h; rw [h]; simp
  · simp
noncomputable def OnW (t t' : Tr) (lo hi : Int) : Prop := (∀ y, y ∈ way lo t' → y < lo → y ∈ way lo t) ∧ ∀ y, y ∈ way hi t' → hi < y → y ∈ way hi t
theorem OnW.left {t l r : Tr} {x lo hi : Int} {a b : Option Int} (h : OnW t (.node l x r) lo hi) (ho : (Tr.node l x r).ord a b) (hx : lo < x) : OnW t l lo hi := by
  refine ⟨fun y hy hl => h.1 y ?_ hl, fun y hy hl => h.2 y ?_ hl⟩
  · rw [way, if_neg (by (first | lia | omega)), if_pos hx]; exact List.mem_cons_of_mem _ hy
  · have := ord_l ho (way_sub _ _ _ hy)
    rw [way, if_neg (by (first | lia | omega)), if_pos (by (first | lia | omega))]; exact List.mem_cons_of_mem _ hy
theorem OnW.right {t l r : Tr} {x lo hi : Int} {a b : Option Int} (h : OnW t (.node l x r) lo hi) (ho : (Tr.node l x r).ord a b) (hx : x < hi) : OnW t r lo hi := by
  refine ⟨fun y hy hl => h.1 y ?_ hl, fun y hy hl => h.2 y ?_ hl⟩
  · have := ord_r ho (way_sub _ _ _ hy)
    rw [way, if_neg (by (first | lia | omega)), if_neg (by (first | lia | omega))]; exact List.mem_cons_of_mem _ hy
  · rw [way, if_neg (by (first | lia | omega)), if_neg (by (first | lia | omega))]; exact List.mem_cons_of_mem _ hy
theorem OnW.here {t l r : Tr} {x lo hi : Int} (h : OnW t (.node l x r) lo hi) (hk : x ∈ t.keys) : Wi t lo hi x := by
  by_cases h1 : x < lo
  · exact .inr (.inl (h.1 x (way_head _ _ _ _) h1))
  · by_cases h2 : hi < x
    · exact .inr (.inr (h.2 x (way_head _ _ _ _) h2))
    · exact .inl ⟨by (first | lia | omega), by (first | lia | omega), hk⟩
theorem Dn.ord {t t' : Tr} (h : Dn t t') : ∀ lo hi, t.ord lo hi → ∃ a b, t'.ord a b := by
  induction h with
  | refl t => exact fun lo hi ho => ⟨lo, hi, ho⟩
  | l _ ih => exact fun lo hi ho => ih _ _ ho.2.2.1
  | r _ ih => exact fun lo hi ho => ih _ _ ho.2.2.2
noncomputable def spWithin (P : Program) (w : World) (K : PySem.W.Frag) (mg : Str → Option Value) (base : Heap) (n : Nat) : Sp := fun vs H Q _ => ∃ (f d : Addr) (v : V) (lo hi : Int) (B : Hp) (notes : Addr) (t t' : Tr) (pss : List (List Int)) (top : V) (kvs : List (Key × V)) (ps : List Nat) (ns0 : List V), vs = [.ref f, .ref d, v, .int lo, .int hi] ∧ RdOk P w K mg base B f notes t pss top ∧ B d = none ∧ Same B H ∧ pss.length ≤ 500 ∧ ns0.length ≤ 400 ∧ t.size ≤ 900 ∧ Rep B v (spotO pss (topK t')) ∧ Dn t t' ∧ t'.ht < n ∧ t'.size ≤ 900 ∧ OnW t t' lo hi ∧ KD ns0 t pss B H d notes kvs ps ∧ (∀ p ∈ ps, Gp t pss lo hi p) ∧
  ∀ r H' kvs' ps', H r = none → Same (rm d (rm notes H)) H' → KD ns0 t pss B H' d notes kvs' ps' → Old H kvs kvs' → (∀ p ∈ ps', Gp t pss lo hi p) → H' r = some (.lst ((mid lo hi t'.keys).map V.int)) → Q (.ref r) H'
theorem mid_node {l r : Tr} {x lo hi : Int} {a b : Option Int} (ho : (Tr.node l x r).ord a b) : mid lo hi (Tr.node l x r).keys = (if lo < x then mid lo hi l.keys else []) ++ (if lo ≤ x ∧ x ≤ hi then [x] else []) ++ (if x < hi then mid lo hi r.keys else []) := by
  have h1 : ¬ lo < x → mid lo hi l.keys = [] := fun h => by
    unfold mid
    rw [List.filter_eq_nil_iff]
    intro y hy
    have := ord_l ho hy
    simp; (first | lia | omega)
  have h2 : ¬ x < hi → mid lo hi r.keys = [] := fun h => by
    unfold mid
    rw [List.filter_eq_nil_iff]
    intro y hy
    have := ord_r ho hy
    simp; (first | lia | omega)
  have h3 : mid lo hi (Tr.node l x r).keys = mid lo hi l.keys ++ mid lo hi [x] ++ mid lo hi r.keys := by
    unfold mid
    rw [Tr.keys, List.filter_append, List.filter_append]
  have h4 : mid lo hi [x] = if lo ≤ x ∧ x ≤ hi then [x] else [] := by
    unfold mid
    by_cases h : lo ≤ x ∧ x ≤ hi
    · rw [if_pos h, List.filter_cons, if_pos (by simp [h])]; rfl
    · rw [if_neg h, List.filter_cons, if_neg (by simp; (first | lia | omega))]; rfl
  rw [h3, h4]
  congr 1
  · congr 1
    by_cases h : lo < x
    · rw [if_pos h]
    · rw [if_neg h, h1 h]
  · by_cases h : x < hi
    · rw [if_pos h]
    · rw [if_neg h, h2 h]
end K36
namespace K36
open PySem L2 L3
variable {ns0 : List V}
theorem KD.mono {t : Tr} {pss : List (List Int)} {B H H' : Hp} {d notes : Addr} {kvs : List (Key × V)} {ps : List Nat} (h : KD ns0 t pss B H d notes kvs ps) (s : Same H H') : KD ns0 t pss B H' d notes kvs ps :=
  ⟨s _ _ h.ed, s _ _ h.en, h.no, fun p hp => let ⟨r, ws, q, h1, h2, h3⟩ := h.yes p hp; ⟨r, ws, q, h1, s _ _ h2, h3⟩, h.kl, h.nd⟩
noncomputable def Sep (l1 : Addr) (kvs : List (Key × V)) (ps : List Nat) : Prop := ∀ p ∈ ps, ∀ r, valV kvs (Sum.inl ((p : Nat) : Int) : Key) = some (.ref r) → r ≠ l1
theorem KD.sep {t : Tr} {pss : List (List Int)} {B H : Hp} {d notes l1 : Addr} {kvs : List (Key × V)} {ps : List Nat} (h : KD ns0 t pss B H d notes kvs ps) (n : H l1 = none) : Sep l1 kvs ps := fun p hp r hv z => by
  obtain ⟨r', ws, q, h1, h2, _⟩ := h.yes p hp
  rw [hv] at h1
  cases h1
  rw [z, n] at h2; cases h2
theorem Sep.old {t : Tr} {pss : List (List Int)} {B H : Hp} {d notes l1 : Addr} {kvs kvs' : List (Key × V)} {ps ps' : List Nat} {o : HO} (h : Sep l1 kvs ps) (kd : KD ns0 t pss B H d notes kvs ps) (old : Old H kvs kvs') (e : H l1 = some o) : Sep l1 kvs' ps' := fun p hp r hv z => by
  rcases old _ _ hv with h1 | h1
  · by_cases hm : p ∈ ps
    · exact h p hm r h1 z
    · rw [kd.no p hm] at h1; cases h1
  · rw [z, e] at h1; cases h1
theorem KD.upd {t : Tr} {pss : List (List Int)} {B H : Hp} {d notes l1 : Addr} {kvs : List (Key × V)} {ps : List Nat} {o : HO} (h : KD ns0 t pss B H d notes kvs ps) (sp : Sep l1 kvs ps) (h1 : l1 ≠ d) (h2 : l1 ≠ notes) : KD ns0 t pss B (L2.upd H l1 o) d notes kvs ps :=
  ⟨by rw [upd_ne h1.symm]; exact h.ed, by rw [upd_ne h2.symm]; exact h.en, h.no, fun p hp => let ⟨r, ws, q, g1, g2, g3⟩ := h.yes p hp; ⟨r, ws, q, g1, by rw [upd_ne (sp p hp r g1)]; exact g2, g3⟩, h.kl, h.nd⟩
theorem old_trans {H H1 : Hp} {d notes : Addr} {k0 k1 k2 : List (Key × V)} {o o' : HO} (a : Old H k0 k1) (b : Old H1 k1 k2) (s : Same (rm d (rm notes H)) H1) (ed : H1 d = some o) (en : H1 notes = some o') : Old H k0 k2 := fun k r h => by
  rcases b k r h with h1 | h1
  · exact a k r h1
  · have := s.free h1
    rw [rm_ne (fun z => by rw [z, ed] at h1; cases h1), rm_ne (fun z => by rw [z, en] at h1; cases h1)] at this
    exact .inr this
section
variable {P : Program} {w : World} {K : PySem.W.Frag} {mg : Str → Option Value} {base : Heap}
theorem ok_within {f : Addr} (F : Fd K mg "keys_within" s_keys_within f) (T : Tx K mg) (C_slot_at : Cal P w K mg base CX0 2 "slot_at" (spSlotAt P w K mg base)) : ∀ n, Cal P w K mg base CX0 (n + 3) "keys_within" (spWithin P w K mg base n) := by
  intro n
  induction n with
  | zero =>
    refine F.cal sc_keys_within (fun _ _ _ _ _ _ us hl => L3.bind5 (fun _ _ _ _ _ => rfl) us hl) (fun vs H Q E h => ?_) (fun cdv A outer s H vs Q E hr h => ?_)
    · obtain ⟨_, _, _, _, _, _, _, _, _, _, _, _, _, _, rfl, _⟩ := h; rfl
    · obtain ⟨_, _, _, _, _, _, _, _, _, _, _, _, _, _, _, _, _, _, _, _, _, _, _, h, _⟩ := h
      (first | lia | omega)
  | succ n C_keys_within =>
    refine F.cal sc_keys_within (fun _ _ _ _ _ _ us hl => L3.bind5 (fun _ _ _ _ _ => rfl) us hl) (fun vs H Q E h => ?_) (fun cdv A outer s H vs Q E hr h => ?_)
    · obtain ⟨_, _, _, _, _, _, _, _, _, _, _, _, _, _, rfl, _⟩ := h; rfl
    · obtain ⟨g, d, v, lo, hi, B, notes, t, t', pss, top, kvs, ps, ns0, rfl, ok, Bd, sB, hpl, hn0, hsz, hv, hdn, hht, hsz', onw, kd, gp, q⟩ := h
      refine ⟨_, (bcons (sif (tcmp rIs (qv 2) qnon (nomark _)) (bone (sret (qlst qnil))) bnil)
      (bcons (sset (i := 5) sc_keys_within.nd rfl (by first | exact Or.inl rfl | exact Or.inr rfl) (qF C_slot_at (hr.mono (by (first | lia | omega))) pass0 rfl (qcons (qv 0) (qcons (qv 1) (qcons (qv 2) qnil)))))
      (bcons (sset (i := 6) sc_keys_within.nd rfl (by first | exact Or.inl rfl | exact Or.inr rfl) (qix (xIx K) (qv 5) qint (fun _ _ => rfl)))
      (bcons (sset (i := 7) sc_keys_within.nd rfl (by first | exact Or.inl rfl | exact Or.inr rfl) (qlst qnil))
      (bcons (sif (tcmp rLt (qv 3) (qv 6) (nomark _)) (bone (sexpr (qBm K PySem.F.plainAttrs_list PySem.F.slot_list_extend PySem.F.type_list_extend mExtend (qv 7) (qcons (qF C_keys_within (hr.mono (by (first | lia | omega))) pass0 rfl (qcons (qv 0) (qcons (qv 1) (qcons (qix (xIx K) (qv 5) qint (fun _ _ => rfl)) (qcons (qv 3) (qcons (qv 4) qnil)))))) qnil)))) bnil)
      (bcons (sif (tchain rLe rLe (qv 3) (qv 6) (qv 4)) (bone (sexpr (qBm K PySem.F.plainAttrs_list PySem.F.slot_list_append PySem.F.type_list_append mAppend (qv 7) (qcons (qv 6) qnil)))) bnil)
      (bcons (sif (tcmp rLt (qv 6) (qv 4) (nomark _)) (bone (sexpr (qBm K PySem.F.plainAttrs_list PySem.F.slot_list_extend PySem.F.type_list_extend mExtend (qv 7) (qcons (qF C_keys_within (hr.mono (by (first | lia | omega))) pass0 rfl (qcons (qv 0) (qcons (qv 1) (qcons (qix (xIx K) (qv 5) qint (fun _ _ => rfl)) (qcons (qv 3) (qcons (qv 4) qnil)))))) qnil)))) bnil)
      (bone (sret (qv 7)))))))))), ?_⟩
      cases t' with
      | nil =>
        cases hv
        refine ⟨_, rfl, rfl, _, rfl, ?_⟩
        refine iteT ?_
        exact ⟨(show 0 ≤ sizeLine by decide), fun r H1 n1 s1 e1 _ => q r H1 kvs ps n1 (rm_same.trans (rm_same.trans s1)) (kd.mono s1) (fun _ _ h => .inl h) gp e1⟩
      | node l x r =>
        obtain ⟨hat, hxk⟩ := hdn.at none none ok.ord l x r rfl
        obtain ⟨oa, ob, ho'⟩ := hdn.ord none none ok.ord
        obtain ⟨sp, vs, rfl, esp, rs⟩ := rep_tup (show Rep B v (.tup [.int (numP pss x : Int), .int (plc pss x : Int)]) from hv)
        cases rs with
        | cons h1 r1 =>
        cases r1 with
        | cons h2 r2 =>
        cases r2; cases h1; cases h2
        have hkl := kd.len
        refine ⟨_, rfl, rfl, _, rfl, ?_⟩
        refine iteF ?_
        refine ⟨_, rfl, _, rfl, _, rfl, g, d, sp, B, notes, t, pss, top, x, kvs, ps, ns0, rfl, ok, Bd, sB, esp, hxk, kd, by (first | lia | omega), hn0, fun sv H1 kvs1 gsv s1 kd1 old1 => ?_⟩
        have gsv' : Rep B sv (.tup [.int x, spotO pss (topK l), spotO pss (topK r)]) := by
          have := gsv
          unfold slotD at this
          rw [hat] at this
          exact this
        obtain ⟨sa, vs, rfl, esa, rs⟩ := rep_tup gsv'
        cases rs with
        | cons h1 r1 =>
        cases r1 with
        | @cons v1 _ _ _ g1 r2 =>
        cases r2 with
        | @cons v2 _ _ _ g2 r3 =>
        cases r3; cases h1
        have nn := ok.nn
        have toB : ∀ {G : Hp}, Same (rm d (rm notes H)) G → Same B G := fun s => (rm_of (rm_of sB nn) Bd).trans s
        refine ⟨_, rfl, sa, _, 0, _, rfl, rfl, .inr (SqT.of (toB s1 _ _ esa)), atI_nat (j := 0) rfl, ?_⟩
        refine ⟨(show 0 ≤ sizeLine by decide), fun l1 H2 n2 s2 e2 _ => ?_⟩
        have gp1 : ∀ p ∈ addP ps (numP pss x), Gp t pss lo hi p := fun p hp => by
          unfold addP at hp
          split at hp
          · exact gp p hp
          · rcases List.mem_append.mp hp with hp | hp
            · exact gp p hp
            · rw [List.mem_singleton] at hp
              exact ⟨x, hp.symm, hxk, onw.here hxk⟩
        have hl1d : l1 ≠ d := fun z => by have := kd1.ed; rw [← z, n2] at this; cases this
        have hl1n : l1 ≠ notes := fun z => by have := kd1.en; rw [← z, n2] at this; cases this
        have n0 : H l1 = none := by
          have := s1.free n2
          rwa [rm_ne hl1d, rm_ne hl1n] at this
        have B0 : rm d (rm notes H) l1 = none := by rw [rm_ne hl1d, rm_ne hl1n]; exact n0
        have hml : ∀ {lo hi : Int} {xs : List Int}, (mid lo hi xs).length ≤ xs.length := List.length_filter_le _ _
        have hll := Tr.keys_length l
        have hrl := Tr.keys_length r
        simp only [Tr.size] at hsz'
        simp only [Tr.ht] at hht
        rw [mid_node ho'] at q
        let M : List Int → L2.St → Hp → Prop := fun acc σ' H' => ∃ kvs2 ps2, σ' = [some (.ref g), some (.ref d), some (.ref sp), some (.int lo), some (.int hi), some (.ref sa), some (.int x), some (.ref l1)] ∧ Same (rm d (rm notes H)) H' ∧ KD ns0 t pss B H' d notes kvs2 ps2 ∧ Old H kvs kvs2 ∧ (∀ p ∈ ps2, Gp t pss lo hi p) ∧ Sep l1 kvs2 ps2 ∧ H' l1 = some (.lst (acc.map V.int))
        apply join (M (if lo < x then mid lo hi l.keys else []))
        case h2 =>
          intro hj
          refine ⟨_, rfl, _, rfl, _, _, rfl, rfl, _, rfl, ?_⟩
          have kd2 := kd1.mono s2
          have sep2 := kd1.sep n2
          by_cases hlt : lo < x
          · rw [decide_eq_true hlt]
            refine iteT ?_
            refine ⟨_, rfl, .inl ⟨rfl, _, SqL.of e2⟩, _, rfl, _, rfl, _, rfl, sa, _, 1, _, rfl, rfl, .inr (SqT.of (toB (s1.trans s2) _ _ esa)), atI_nat (j := 1) rfl, _, rfl, _, rfl, g, d, v1, lo, hi, B, notes, t, l, pss, top, kvs1, _, ns0, rfl, ok, Bd, toB (s1.trans s2), hpl, hn0, hsz, g1, hdn.trans (.l (.refl l)), by (first | lia | omega), by (first | lia | omega), onw.left ho' hlt, kd2, gp1, fun r3 H3 kvs3 ps3 n3 s3 kd3 old3 gp3 e3 => ?_⟩
            have e23 : H3 l1 = some (.lst []) := s3 _ _ (by rw [rm_ne hl1d, rm_ne hl1n]; exact e2)
            have s13 : Same (rm d (rm notes H)) H3 := (rm_of (rm_of (s1.trans s2) (rm_fresh rm_self)) rm_self).trans s3
            refine ⟨l1, r3, _, _, rfl, rfl, e23, e3, sizeBig' (by have := @hml lo hi l.keys; simp; (first | lia | omega)), ?_⟩
            refine hj _ _ ⟨kvs3, ps3, rfl, same_upd s13 B0, kd3.upd (sep2.old kd2 old3 e2) hl1d hl1n, old_trans old1 old3 (s1.trans s2) kd2.ed kd2.en, gp3, sep2.old kd2 old3 e2, ?_⟩
            rw [if_pos hlt]; exact upd_same
          · rw [decide_eq_false hlt]
            refine iteF ?_
            exact hj _ _ ⟨kvs1, _, rfl, s1.trans s2, kd2, old1, gp1, sep2, by rw [if_neg hlt]; exact e2⟩
        rintro σ H3 ⟨kvs3, ps3, rfl, s3, kd3, old3, gp3, sep3, e3⟩
        apply join (M ((if lo < x then mid lo hi l.keys else []) ++ (if lo ≤ x ∧ x ≤ hi then [x] else [])))
        case h2 =>
          intro hj
          have hal : (if lo < x then mid lo hi l.keys else []).length ≤ 900 := by
            split
            · have := @hml lo hi l.keys; (first | lia | omega)
            · simp
          refine ⟨_, rfl, _, rfl, _, _, rfl, rfl, ?_⟩
          refine ⟨_, rfl, ?_⟩
          by_cases h1 : lo ≤ x
          · rw [decide_eq_true h1]
            refine iteT ?_
            refine ⟨_, rfl, _, _, rfl, rfl, _, rfl, ?_⟩
            by_cases h2 : x ≤ hi
            · rw [decide_eq_true h2]
              refine iteT ?_
              refine ⟨_, rfl, .inl ⟨rfl, _, SqL.of e3⟩, _, rfl, l1, _, _, rfl, rfl, e3, sizeBig (by rw [List.length_map]; (first | lia | omega)), ?_⟩
              exact hj _ _ ⟨kvs3, ps3, rfl, same_upd s3 B0, kd3.upd sep3 hl1d hl1n, old3, gp3, sep3, by rw [if_pos (show lo ≤ x ∧ x ≤ hi from ⟨h1, h2⟩), List.map_append]; exact upd_same⟩
            · rw [decide_eq_false h2]
              refine iteF ?_
              exact hj _ _ ⟨kvs3, ps3, rfl, s3, kd3, old3, gp3, sep3, by rw [if_neg (fun z : lo ≤ x ∧ x ≤ hi => h2 z.2), List.append_nil]; exact e3⟩
          · rw [decide_eq_false h1]
            refine iteF ?_
            refine ⟨_, rfl, ?_⟩
            refine iteF ?_
            exact hj _ _ ⟨kvs3, ps3, rfl, s3, kd3, old3, gp3, sep3, by rw [if_neg (fun z : lo ≤ x ∧ x ≤ hi => h1 z.1), List.append_nil]; exact e3⟩
        rintro σ H4 ⟨kvs4, ps4, rfl, s4, kd4, old4, gp4, sep4, e4⟩
        have hal4 : ((if lo < x then mid lo hi l.keys else []) ++ (if lo ≤ x ∧ x ≤ hi then [x] else [])).length ≤ l.size + 1 := by
          rw [List.length_append]
          have h1 : (if lo < x then mid lo hi l.keys else []).length ≤ l.size := by
            split
            · have := @hml lo hi l.keys; (first | lia | omega)
            · simp
          have h2 : (if lo ≤ x ∧ x ≤ hi then [x] else []).length ≤ 1 := by split <;> simp
          (first | lia | omega)
        generalize (if lo < x then mid lo hi l.keys else []) ++ (if lo ≤ x ∧ x ≤ hi then [x] else []) = acc at *
        refine ⟨_, rfl, _, rfl, _, _, rfl, rfl, _, rfl, ?_⟩
        by_cases hlt : x < hi
        · rw [decide_eq_true hlt]
          refine iteT ?_
          refine ⟨_, rfl, .inl ⟨rfl, _, SqL.of e4⟩, _, rfl, _, rfl, _, rfl, sa, _, 2, _, rfl, rfl, .inr (SqT.of (toB s4 _ _ esa)), atI_nat (j := 2) rfl, _, rfl, _, rfl, g, d, v2, lo, hi, B, notes, t, r, pss, top, kvs4, _, ns0, rfl, ok, Bd, toB s4, hpl, hn0, hsz, g2, hdn.trans (.r (.refl r)), by (first | lia | omega), by (first | lia | omega), onw.right ho' hlt, kd4, gp4, fun r5 H5 kvs5 ps5 n5 s5 kd5 old5 gp5 e5 => ?_⟩
          have e45 : H5 l1 = some (.lst (acc.map V.int)) := s5 _ _ (by rw [rm_ne hl1d, rm_ne hl1n]; exact e4)
          have s15 : Same (rm d (rm notes H)) H5 := (rm_of (rm_of s4 (rm_fresh rm_self)) rm_self).trans s5
          refine ⟨l1, r5, _, _, rfl, rfl, e45, e5, sizeBig' (by have := @hml lo hi r.keys; simp; (first | lia | omega)), ?_⟩
          refine ⟨_, rfl, ?_⟩
          refine q l1 _ kvs5 ps5 n0 (same_upd s15 B0) (kd5.upd (sep4.old kd4 old5 e4) hl1d hl1n) (old_trans old4 old5 s4 kd4.ed kd4.en) gp5 ?_
          rw [if_pos hlt, List.map_append]; exact upd_same
        · rw [decide_eq_false hlt]
          refine iteF ?_
          refine ⟨_, rfl, ?_⟩
          refine q l1 H4 kvs4 ps4 n0 s4 kd4 old4 gp4 ?_
          rw [if_neg hlt, List.append_nil]; exact e4
end
end K36
namespace K36
open PySem L2 L3
noncomputable def Nts (t : Tr) (pss : List (List Int)) (lo hi : Int) (ps : List Nat) : Prop := ps.Nodup ∧ (∀ p ∈ ps, Gp t pss lo hi p) ∧ ps.length ≤ pss.length
noncomputable def spBetween (P : Program) (w : World) (K : PySem.W.Frag) (mg : Str → Option Value) (base : Heap) : Sp := fun vs H Q _ => ∃ (f : Addr) (v : V) (lo hi : Int) (notes : Addr) (t : Tr) (pss : List (List Int)) (ns0 : List V), vs = [.ref f, v, .int lo, .int hi] ∧ RdOk P w K mg base (rm notes H) f notes t pss v ∧ pss.length ≤ 500 ∧ ns0.length ≤ 400 ∧ t.size ≤ 900 ∧ t.ht < 80 ∧ H notes = some (.lst ns0) ∧
  ∀ r H' ps, H r = none → Same (rm notes H) H' → H' notes = some (.lst (ns0 ++ ps.map fun p : Nat => V.int (p : Int))) → Nts t pss lo hi ps → H' r = some (.lst ((if lo ≤ hi then mid lo hi t.keys else []).map V.int)) → Q (.ref r) H'
section
variable {P : Program} {w : World} {K : PySem.W.Frag} {mg : Str → Option Value} {base : Heap}
theorem RdOk.mono {B B' : Hp} {f notes : Addr} {t : Tr} {pss : List (List Int)} {top : V} (h : RdOk P w K mg base B f notes t pss top) (s : Same B B') (n : B' notes = none) : RdOk P w K mg base B' f notes t pss top := by
  obtain ⟨⟨c', L, fd, rows, bs, h1, h2, h3, h4, h5⟩, _, h7, h8, h9, h10, h11⟩ := h
  exact ⟨⟨c', L, fd, rows, bs, h1, h2, h3.mono s, s _ _ h4, h5.mono s⟩, n, h7.mono s, h8, h9, h10, h11⟩
theorem ok_between {f : Addr} (F : Fd K mg "between" s_between f) (T : Tx K mg) (C_keys_within : Cal P w K mg base CX0 83 "keys_within" (spWithin P w K mg base 80)) : Cal P w K mg base CX0 84 "between" (spBetween P w K mg base) := by
  refine F.cal sc_between (fun _ _ _ _ _ _ us hl => L3.bind4 (fun _ _ _ _ => rfl) us hl) (fun vs H Q E h => ?_) (fun cdv A outer s H vs Q E hr h => ?_)
  · obtain ⟨f, v, lo, hi, notes, t, pss, ns0, rfl, _⟩ := h; rfl
  · obtain ⟨g, v, lo, hi, notes, t, pss, ns0, rfl, ok, hpl, hn0, hsz, hht, en, q⟩ := h
    refine ⟨_, (bone (sret (qif (tcmp rLe (qv 2) (qv 3) (nomark _)) (qF C_keys_within (hr.mono (by (first | lia | omega))) pass0 rfl (qcons (qv 0) (qcons qdict (qcons (qv 1) (qcons (qv 2) (qcons (qv 3) qnil)))))) (qlst qnil)))), ?_⟩
    refine ⟨_, rfl, _, rfl, _, _, rfl, rfl, _, rfl, ?_⟩
    by_cases hle : lo ≤ hi
    · rw [decide_eq_true hle]
      refine iteT ?_
      refine ⟨_, rfl, fun d H1 n1 s1 e1 _ => ?_⟩
      have hdn : d ≠ notes := fun z => by rw [z, en] at n1; cases n1
      have Bd : rm notes H d = none := rm_fresh n1
      have sB : Same (rm notes H) H1 := rm_same.trans s1
      have kd : KD ns0 t pss (rm notes H) H1 d notes [] [] := ⟨e1, by rw [List.map_nil, List.append_nil]; exact s1 _ _ en, fun _ _ => rfl, fun p hp => by simp at hp, Nat.le_refl _, List.nodup_nil⟩
      refine ⟨_, rfl, _, rfl, _, rfl, g, d, v, lo, hi, rm notes H, notes, t, t, pss, v, [], [], ns0, rfl, ok, Bd, sB, hpl, hn0, hsz, ok.top, .refl t, by (first | lia | omega), hsz, ⟨fun _ h _ => h, fun _ h _ => h⟩, kd, by simp, fun r H2 kvs2 ps2 n2 s2 kd2 _ gp2 e2 => ?_⟩
      refine q r H2 ps2 (s1.free n2) ((rm_of (rm_of sB rm_self) Bd).trans s2) kd2.en ⟨kd2.nd, gp2, kd2.len⟩ ?_
      rw [if_pos hle]; exact e2
    · rw [decide_eq_false hle]
      refine iteF ?_
      refine ⟨(show 0 ≤ sizeLine by decide), fun r H1 n1 s1 e1 _ => ?_⟩
      exact q r H1 [] n1 (rm_same.trans s1) (by rw [List.map_nil, List.append_nil]; exact s1 _ _ en) ⟨List.nodup_nil, by simp, Nat.zero_le _⟩ (by rw [if_neg hle]; exact e1)
end
end K36
namespace K36
open PySem L2 L3
mutual
theorem rep_tb {H : Hp} {Pt : Addr} {ps : Array Value} (hP : H Pt = some (.tbl ps)) {v : V} {d : D} : Rep H v d → Rep (rm Pt H) v d
  | .non => .non
  | .bl b => .bl b
  | .int i => .int i
  | .str x => .str x
  | .tup e r => .tup (by rw [rm_ne (fun z => by rw [z, hP] at e; cases e)]; exact e) (reps_tb hP r)
  | .lst e r => .lst (by rw [rm_ne (fun z => by rw [z, hP] at e; cases e)]; exact e) (reps_tb hP r)
  | .emp e => .emp (by rw [rm_ne (fun z => by rw [z, hP] at e; cases e)]; exact e)
theorem reps_tb {H : Hp} {Pt : Addr} {ps : Array Value} (hP : H Pt = some (.tbl ps)) {vs : List V} {ds : List D} : Reps H vs ds → Reps (rm Pt H) vs ds
  | .nil => .nil
  | .cons h r => .cons (rep_tb hP h) (reps_tb hP r)
end
theorem tb_mono {Pt : Addr} {pos : Pos} {q : Str} {H H' : Hp} (h : TB Pt pos q H) (s : Same H H') : TB Pt pos q H' := by
  obtain ⟨ps, e, ht, hc⟩ := h
  refine ⟨ps, s _ _ e, ht, ?_⟩
  rcases hc with hc | ⟨c', h1, h2⟩
  · exact .inl hc
  · exact .inr ⟨c', h1, s _ _ h2⟩
theorem tb_ne {Pt b : Addr} {pos : Pos} {q : Str} {H : Hp} {xs : List V} (h : TB Pt pos q H) (e : H b = some (.lst xs)) : b ≠ Pt := fun z => by
  obtain ⟨ps, e', _⟩ := h
  rw [← z, e] at e'; cases e'
theorem tb_rm {Pt b : Addr} {pos : Pos} {q : Str} {H : Hp} {xs : List V} (h : TB Pt pos q H) (e : H b = some (.lst xs)) : TB Pt pos q (rm b H) := by
  have hne := tb_ne h e
  obtain ⟨ps, e', ht, hc⟩ := h
  refine ⟨ps, by rw [rm_ne hne.symm]; exact e', ht, ?_⟩
  rcases hc with hc | ⟨c', h1, h2⟩
  · exact .inl hc
  · exact .inr ⟨c', h1, by rw [rm_ne (ext_lst h2 e)]; exact h2⟩
theorem tb_pen {Pt p : Addr} {pos : Pos} {q : Str} {H H' : Hp} (h : TB Pt pos q H) (hp : PenAt H p) (s : Same (rm p H) H') : TB Pt pos q H' := by
  obtain ⟨m, n, e⟩ := hp
  exact tb_mono (tb_rm h e) s
noncomputable def Kp (t : Tr) (pss : List (List Int)) (B H : Hp) : List Addr → List (List Int) → Prop
  | [], [] => True
  | c :: cs, q :: qs => (∃ vs, H c = some (.lst vs) ∧ Reps B vs (q.map (slotD t pss))) ∧ Kp t pss B H cs qs
  | _, _ => False
theorem Kp.to {t : Tr} {pss : List (List Int)} {B H H' : Hp} : ∀ {cs : List Addr} {qs : List (List Int)}, Kp t pss B H cs qs → (∀ c ∈ cs, ∀ vs, H c = some (.lst vs) → H' c = some (.lst vs)) → Kp t pss B H' cs qs
  | [], [], _, _ => trivial
  | [], _ :: _, h, _ => h.elim
  | _ :: _, [], h, _ => h.elim
  | c :: cs, q :: qs, ⟨⟨vs, h1, h2⟩, h3⟩, f => ⟨⟨vs, f c (by simp) vs h1, h2⟩, Kp.to h3 fun c hc => f c (List.mem_cons_of_mem _ hc)⟩
theorem Kp.snoc {t : Tr} {pss : List (List Int)} {B H : Hp} {b : Addr} {q : List Int} (hb : ∃ vs, H b = some (.lst vs) ∧ Reps B vs (q.map (slotD t pss))) : ∀ {cs : List Addr} {qs : List (List Int)}, Kp t pss B H cs qs → Kp t pss B H (cs ++ [b]) (qs ++ [q])
  | [], [], _ => ⟨hb, trivial⟩
  | [], _ :: _, h => h.elim
  | _ :: _, [], h => h.elim
  | c :: cs, p :: qs, ⟨h1, h2⟩ => ⟨h1, Kp.snoc hb h2⟩
theorem Kp.rws {t : Tr} {pss : List (List Int)} {B H : Hp} (s : Same B H) : ∀ {cs : List Addr} {qs : List (List Int)}, Kp t pss B H cs qs → Rws t pss H cs qs
  | [], [], _ => trivial
  | [], _ :: _, h => h.elim
  | _ :: _, [], h => h.elim
  | c :: cs, q :: qs, ⟨⟨vs, h1, h2⟩, h3⟩ => ⟨⟨vs, h1, h2.mono s⟩, Kp.rws s h3⟩
theorem bu_d {xs : List Int} {k : Int} {v : V} (h : BU xs k v) : ∃ d : D, (∀ H : Hp, Rep H v d) ∧ d.pure = true ∧ d.dep = 0 := by
  rcases h with ⟨rfl, _⟩ | ⟨M, rfl, _⟩
  · exact ⟨.non, fun H => .non, rfl, rfl⟩
  · exact ⟨.int M, fun H => .int M, rfl, rfl⟩
theorem rws_tb {H : Hp} {Pt : Addr} {ps : Array Value} (hP : H Pt = some (.tbl ps)) {t : Tr} {pss : List (List Int)} : ∀ {bs : List Addr} {qs : List (List Int)}, Rws t pss H bs qs → Rws t pss (rm Pt H) bs qs
  | [], [], _ => trivial
  | [], _ :: _, h => h.elim
  | _ :: _, [], h => h.elim
  | b :: bs, q :: qs, ⟨⟨vs, h1, h2⟩, h3⟩ => ⟨⟨vs, by rw [rm_ne (fun z => by rw [z, hP] at h1; cases h1)]; exact h1, reps_tb hP h2⟩, rws_tb hP h3⟩
structure S36 (B : Hp) (vt : V) (a : Addr) (bs : List Addr) (t : Tr) (pss : List (List Int)) : Prop where
  tr : Rep B vt t.d
  pa : B a = some (.lst (bs.map V.ref))
  pg : Pgs B bs pss
  ord : t.ord none none
  ht : t.ht ≤ 70
  sz : t.size ≤ 60
  nd : pss.flatten.Nodup
  fl : pss.flatten.length ≤ 60
  pl : pss.length ≤ 100
  kf : ∀ y, y ∈ t.keys ↔ y ∈ pss.flatten
theorem S36.mono {B B' : Hp} {vt : V} {a : Addr} {bs : List Addr} {t : Tr} {pss : List (List Int)} (h : S36 B vt a bs t pss) (s : Same B B') : S36 B' vt a bs t pss :=
  ⟨h.tr.mono s, s _ _ h.pa, h.pg.mono s, h.ord, h.ht, h.sz, h.nd, h.fl, h.pl, h.kf⟩
structure St36 (B : Hp) (tv : V) (rl : Addr) (rs : List Addr) (t : Tr) (pss : List (List Int)) : Prop where
  top : Rep B tv (spotO pss (topK t))
  rl : B rl = some (.lst (rs.map V.ref))
  rw : Rws t pss B rs pss
theorem St36.mono {B B' : Hp} {tv : V} {rl : Addr} {rs : List Addr} {t : Tr} {pss : List (List Int)} (h : St36 B tv rl rs t pss) (s : Same B B') : St36 B' tv rl rs t pss := ⟨h.top.mono s, s _ _ h.rl, h.rw.mono s⟩
theorem St36.tb {H : Hp} {Pt : Addr} {pos : Pos} {q : Str} {tv : V} {rl : Addr} {rs : List Addr} {t : Tr} {pss : List (List Int)} (T : TB Pt pos q H) (h1 : Rep H tv (spotO pss (topK t))) (h2 : H rl = some (.lst (rs.map V.ref))) (h3 : Rws t pss H rs pss) : St36 (rm Pt H) tv rl rs t pss := by
  have hne := tb_ne T h2
  obtain ⟨ps, eps, _⟩ := T
  exact ⟨rep_tb eps h1, by rw [rm_ne hne]; exact h2, rws_tb eps h3⟩
noncomputable def spOnce : Sp := fun vs H Q _ => ∃ (a : Addr) (xs : List Int), vs = [.ref a] ∧ H a = some (.lst (xs.map V.int)) ∧ xs.length ≤ 1000 ∧ ∀ r H', H r = none → Same H H' → H' r = some (.lst ((dd xs).map V.int)) → Q (.ref r) H'
noncomputable def spLk (Pt : Addr) : Sp := fun vs H Q _ => ∃ (vt : V) (a : Addr) (k : Int) (th : Bool) (bs : List Addr) (t : Tr) (pss : List (List Int)), vs = [vt, .ref a, .int k, .bl th] ∧ S36 (rm Pt H) vt a bs t pss ∧ TB Pt posT qT H ∧ th = decide (k ∈ t.keys) ∧ ∀ H', Same (rm Pt H) H' → TB Pt posT qT H' → Q (.bl true) H'
section
variable {P : Program} {w : World} {K : PySem.W.Frag} {mg : Str → Option Value} {base : Heap}
theorem binds_tells {L c' : Addr} {doc pm ctv : Value} : Binds K (fdT L c' doc pm ctv) ["_law_number"] [] := Binds.all fun us hl => by
  cases us with
  | nil => cases hl
  | cons a us => cases us with
    | nil => rfl
    | cons b us => cases hl
theorem rd_ok (T : Tx K mg) {B0 B : Hp} {vt : V} {a : Addr} {tv : V} {rl : Addr} {bs rs : List Addr} {t : Tr} {pss : List (List Int)} (S : S36 B0 vt a bs t pss) (St : St36 B tv rl rs t pss) {H5 : Hp} {f c' L notes : Addr} {doc ctv : Value} {ys : List V}
    (s5 : Same B (rm notes H5)) (en : H5 notes = some (.lst ys)) (R : RdS H5 f c' L (fdT L c' doc ((mg "__name__").getD .none) ctv) rl notes) : RdOk P w K mg base (rm notes H5) f notes t pss tv :=
  ⟨⟨c', L, _, rl, rs, ok_tells T, binds_tells, R.rm en, s5 _ _ St.rl, St.rw.mono s5⟩, rm_self, St.top.mono s5, S.ord, by have := S.ht; (first | lia | omega), S.nd, fun y hy => (S.kf y).mp hy⟩
theorem ok_once {f : Addr} (F : Fd K mg "_law_once" s_law_once f) (T : Tx K mg) : Cal P w K mg base CX0 1 "_law_once" spOnce := by
  refine F.cal sc_law_once (fun _ _ _ _ _ _ us hl => L3.bind1 (fun _ => rfl) us hl) (fun vs H Q E h => ?_) (fun cdv A outer s H vs Q E hr h => ?_)
  · obtain ⟨a, xs, rfl, _⟩ := h; rfl
  · obtain ⟨a, xs, rfl, ea, hxl, q⟩ := h
    refine ⟨_, (bcons (sset (i := 1) sc_law_once.nd rfl (by first | exact Or.inl rfl | exact Or.inr rfl) (qlst qnil))
      (bcons (sfor PassesOwn.never rfl (iseq K (qv 0)) (gname (i := 2) sc_law_once.nd rfl (by first | exact Or.inl rfl | exact Or.inr rfl))
        (bone (sif (tcmp (rNotInn K) (qv 2) (qv 1) (by with_unfolding_all rfl)) (bone (sexpr (qBm K PySem.F.plainAttrs_list PySem.F.slot_list_append PySem.F.type_list_append mAppend (qv 1) (qcons (qv 2) qnil)))) bnil)))
      (bone (sret (qv 1))))), ?_⟩
    refine ⟨(show 0 ≤ sizeLine by decide), fun l H1 n1 s1 e1 _ => ?_⟩
    refine ⟨_, rfl, a, rfl, .inl ⟨⟨_, SqL.of (s1 _ _ ea)⟩, for_list (xs := xs.map V.int) (fun i σ H' => ∃ z, σ = [some (.ref a), some (.ref l), z] ∧ Same H H' ∧ H' l = some (.lst ((dd (xs.take i)).map V.int))) ⟨none, rfl, s1, e1⟩ (fun i σ H' _ hh => by obtain ⟨_, _, s', _⟩ := hh; exact SqL.of (s' _ _ ea)) ?_ ?_⟩⟩
    · rintro i y σ H2 hy ⟨z, rfl, s2, e2⟩
      rw [List.getElem?_map] at hy
      obtain ⟨k, hk, rfl⟩ := Option.map_eq_some_iff.mp hy
      have hts : dd (xs.take (i + 1)) = ddS (dd (xs.take i)) k := by rw [List.take_add_one, hk]; exact dd_snoc _ _
      have hdl := dd_len (xs.take i)
      rw [List.length_take] at hdl
      refine ⟨_, rfl, _, rfl, l, _, rfl, .inl (SqL.of e2), rfl, flat_ints _, ?_⟩
      rw [if_pos rfl, inV_ints]
      refine ⟨_, rfl, ?_⟩
      by_cases hm : k ∈ dd (xs.take i)
      · rw [decide_eq_true hm]
        refine iteF ?_
        exact ⟨_, rfl, s2, by rw [hts, ddS, if_pos hm]; exact e2⟩
      · rw [decide_eq_false hm]
        refine iteT ?_
        refine ⟨_, rfl, .inl ⟨rfl, _, SqL.of e2⟩, _, rfl, l, _, _, rfl, rfl, e2, sizeBig (by rw [List.length_map]; (first | lia | omega)), ?_⟩
        exact ⟨_, rfl, same_upd s2 n1, by rw [hts, ddS, if_neg hm, List.map_append]; exact upd_same⟩
    · rintro σ H2 ⟨z, rfl, s2, e2⟩
      rw [List.length_map, List.take_length] at e2
      exact ⟨_, rfl, q l H2 n1 s2 e2⟩
theorem ok_lk {f Pt : Addr} (F : Fd K mg "_law_looked_up" s_law_looked_up f) (T : Tx K mg) (C_stored : Cal P w K mg base CX0 5 "stored" spStored) (C_law_reader : Cal P w K mg base CX0 1 "_law_reader" (spReader mg Pt)) (C_looked_up : Cal P w K mg base CX0 3 "looked_up" (spLooked P w K mg base)) (C_page_turns : Cal P w K mg base CX0 4 "page_turns" spTurns) (C_law_once : Cal P w K mg base CX0 1 "_law_once" spOnce) (C_pages_met : Cal P w K mg base CX0 4 "pages_met" spMet) : Cal P w K mg base CX0 6 "_law_looked_up" (spLk Pt) := by
  refine F.cal sc_law_looked_up (fun _ _ _ _ _ _ us hl => L3.bind4 (fun _ _ _ _ => rfl) us hl) (fun vs H Q E h => ?_) (fun cdv A outer s H vs Q E hr h => ?_)
  · obtain ⟨_, _, _, _, _, _, _, rfl, _⟩ := h; rfl
  · obtain ⟨vt, a, k, th, bs, t, pss, rfl, S, hT, rfl, q⟩ := h
    have hwl := way_len k t
    have hpl := S.pl
    have hfl := S.fl
    have hht := S.ht
    have hal : (rn (along t pss k)).length ≤ 900 := by
      have h1 := rn_len (along t pss k)
      have h2 : (along t pss k).length = (way k t).length := List.length_map _
      (first | lia | omega)
    have S0 := S.mono rm_same
    refine ⟨_, (bcons (sasg (qF C_stored (hr.mono (by (first | lia | omega))) pass0 rfl (qcons (qv 0) (qcons (qv 1) qnil))) (gtup (n := 2) K rfl (gscons (gname (i := 4) sc_law_looked_up.nd rfl (by first | exact Or.inl rfl | exact Or.inr rfl)) (gscons (gname (i := 5) sc_law_looked_up.nd rfl (by first | exact Or.inl rfl | exact Or.inr rfl)) gsnil))))
      (bcons (ssetC (i := 6) (sc := defScope s_law_looked_up) (NX := ["_law_tree", "_law_pages", "_law_key", "_law_there", "_law_top", "_law_rows", "_law_kept", "_law_notes"]) ["_law_row"] [none] rfl sc_law_looked_up.nd rfl rfl (iseq K (qv 5)) (fun _ _ _ => (gname (i := 0) (show (["_law_row"] : List Str).Nodup by decide +kernel) rfl (by first | exact Or.inl rfl | exact Or.inr rfl))) (fun _ _ _ => csnil) (fun _ _ _ => (qTy (fList K) rfl T.b_list bt_list (qcons (qv 0) qnil))) rfl rfl (by decide +kernel) rfl)
      (bcons (sset (i := 7) sc_law_looked_up.nd rfl (by first | exact Or.inl rfl | exact Or.inr rfl) (qlst qnil))
      (bcons (sif (QW.tst (wor (tcmp (rNeq hr) (qF C_looked_up (hr.mono (by (first | lia | omega))) pass0 rfl (qcons (qF C_law_reader (hr.mono (by (first | lia | omega))) pass0 rfl (qcons (qv 5) (qcons (qv 7) qnil))) (qcons (qv 4) (qcons (qv 2) qnil)))) (qv 3) (nomark _)) (wor1 (tcmp (rNeq hr) (qv 5) (qv 6) (nomark _))))) (bone (sret qbl)) bnil)
      (bone (sret (qand K (qcmp (rEqq hr) (qB (fLen K) rfl T.b_len bt_len (qcons (qv 7) qnil)) (qF C_page_turns (hr.mono (by (first | lia | omega))) pass0 rfl (qcons (qv 0) (qcons (qv 1) (qcons (qv 2) qnil)))) (nomark _)) (qone (qcmp (rEqq hr) (qF C_law_once (hr.mono (by (first | lia | omega))) pass0 rfl (qcons (qv 7) qnil)) (qF C_pages_met (hr.mono (by (first | lia | omega))) pass0 rfl (qcons (qv 0) (qcons (qv 1) (qcons (qv 2) qnil)))) (nomark _)))))))))), ?_⟩
    refine ⟨_, rfl, _, rfl, vt, t, a, bs, pss, rfl, S0.tr, S.ord, S0.pa, S0.pg, S.nd, by (first | lia | omega), by (first | lia | omega), S.kf, fun st rl rs tv H1 n1 s1 est gtop erl hrw _ _ _ => ?_⟩
    have T1 := tb_mono hT s1
    have St1 := St36.tb T1 gtop erl hrw
    have sB1' : Same (rm Pt H1) H1 := rm_same
    have sBB1' : Same (rm Pt H) (rm Pt H1) := rm_of (rm_same.trans s1) rm_self
    have B1P' : rm Pt H1 Pt = none := rm_self
    generalize rm Pt H1 = B1 at St1 sB1' sBB1' B1P'
    have hrl : rs.length = pss.length := hrw.len
    refine ⟨st, _, rfl, SqT.of est, rfl, _, _, rfl, _, _, rfl, rfl, ?_⟩
    refine ⟨_, rfl, rl, rfl, .inl ⟨⟨_, SqL.of erl⟩, fun acc ha => ?_⟩⟩
    refine comp_list (xs := rs.map V.ref) (fun i zs σ H' => ∃ z cs, σ = [z] ∧ Same H1 H' ∧ H' acc = some (.lst zs) ∧ zs = cs.map V.ref ∧ cs.length = i ∧ (∀ c ∈ cs, c ≠ acc) ∧ Kp t pss B1 H' cs (pss.take i)) ⟨none, [], rfl, same_new ha, upd_same, rfl, rfl, by simp, by simp; exact trivial⟩ (fun i ys σ H' hh => by obtain ⟨_, _, _, s', _⟩ := hh; exact SqL.of (s' _ _ erl)) ?_ ?_
    · rintro i zs y σ H2 hy hi' ⟨z, cs, rfl, s2, e2, rfl, hcl, hca, g2⟩
      rw [List.getElem?_map] at hy
      obtain ⟨b, hb, rfl⟩ := Option.map_eq_some_iff.mp hy
      rw [List.length_map] at hi'
      obtain ⟨qi, hqi⟩ : ∃ qi, pss[i]? = some qi := ⟨_, List.getElem?_eq_getElem (by (first | lia | omega))⟩
      obtain ⟨b', ws, hb', eb, hreps⟩ := St1.rw.at hqi
      rw [hb] at hb'
      cases hb'
      refine ⟨_, rfl, b, ws, rfl, .inl (SqL.of (s2 _ _ (sB1' _ _ eb))), fun r3 H3 n3 s3 e3 _ => ?_⟩
      have hr3 : r3 ≠ acc := fun z => by rw [z, e2] at n3; cases n3
      have ea3 := s3 _ _ e2
      refine cpost ea3 (sizeBig (by rw [List.length_map]; (first | lia | omega))) (by rw [List.length_map]; exact hi') ?_
      refine ⟨_, cs ++ [r3], rfl, same_upd (s2.trans s3) ha, upd_same, by rw [List.map_append]; rfl, by simp [hcl], fun c hc => ?_, ?_⟩
      · rcases List.mem_append.mp hc with hc | hc
        · exact hca c hc
        · rw [List.mem_singleton] at hc; subst hc; exact hr3
      · rw [List.take_add_one, hqi]
        exact Kp.snoc ⟨ws, by rw [upd_ne hr3]; exact e3, hreps⟩ (g2.to fun c hc vs e => by rw [upd_ne (hca c hc)]; exact s3 _ _ e)
    rintro zs σ H2 ⟨z, ks, rfl, s2, e2, rfl, hcl, hca, g2⟩
    rw [List.length_map, hrl, List.take_length] at g2
    refine ⟨(show 0 ≤ sizeLine by decide), fun n6 H6 m6 s6 e6 _ => ?_⟩
    have T6 := tb_mono T1 (s2.trans s6)
    have hnP := tb_ne T6 e6
    have B1n : B1 n6 = none := (sB1'.trans s2).free m6
    generalize hB6 : rm n6 (rm Pt H6) = B6
    have B6n : B6 n6 = none := by rw [← hB6]; exact rm_self
    have s6P : Same B6 (rm Pt H6) := by rw [← hB6]; exact rm_same
    have sB16 : Same B1 B6 := by rw [← hB6]; exact rm_of (rm_of (sB1'.trans (s2.trans s6)) B1P') B1n
    have b6 : ∀ {c vs}, H2 c = some (.lst vs) → B6 c = some (.lst vs) := fun {c vs} e => by
      rw [← hB6, rm_ne (fun z => by rw [z, m6] at e; cases e), rm_ne (tb_ne T6 (s6 _ _ e))]; exact s6 _ _ e
    have ekp : B6 acc = some (.lst (ks.map V.ref)) := b6 e2
    have gk : Rws t pss B6 ks pss := Kp.rws sB16 (g2.to fun c hc vs e => b6 e)
    have St6 := St1.mono sB16
    have S6 := S.mono (sBB1'.trans sB16)
    refine ⟨_, rfl, _, rfl, rl, n6, rfl, T6, fun f7 c7 L7 doc7 ctv7 H7 m7 s7 T7 R7 => ?_⟩
    have e7 := rm_look s7 e6 hnP
    have s67 : Same B6 H7 := s6P.trans s7
    refine ⟨_, rfl, _, rfl, f7, tv, k, n6, t, pss, [], rfl, rd_ok T S St6 (rm_of s67 B6n) e7 R7, e7, by simp, fun H8 s8 en8 => ?_⟩
    have s68 : Same B6 H8 := (rm_of s67 B6n).trans s8
    have T8 := tb_mono (tb_rm T7 e7) s8
    have S8 := S6.mono s68
    refine ⟨_, rfl, ?_⟩
    refine ⟨_, rfl, ?_⟩
    rw [decide_eq_true rfl]
    refine iteF ?_
    refine ⟨_, rfl, _, rfl, ?_⟩
    refine ne_same (e := .lst (pss.map (rowD t pss))) (.lst (s68 _ _ St6.rl) (St6.rw.mono s68).reps) (.lst (s68 _ _ ekp) (gk.mono s68).reps) (by rw [D.pure]; exact rows_pures t pss pss) (by rw [D.dep]; have := rows_deps t pss pss; (first | lia | omega)) ?_
    refine ⟨_, rfl, ?_⟩
    refine iteF ?_
    refine ⟨_, rfl, n6, _, rfl, .inl (SqL.of en8), ?_⟩
    have hpre : preA vt t a bs pss H8 := ⟨S8.tr, by (first | lia | omega), S8.pa, S8.pg, by (first | lia | omega), fun y hy => (S.kf y).mp hy⟩
    refine ⟨_, rfl, _, rfl, _, rfl, vt, t, a, bs, pss, k, rfl, hpre, fun H9 s9 => ?_⟩
    have hch := rn_chg (along t pss k)
    rw [List.nil_append] at en8
    have hlen : ((([] : List V) ++ (rn (along t pss k)).map V.int).length : Int) = ((chg (along t pss k)).1 : Nat) := by
      rw [List.nil_append, List.length_map, hch]
    rw [hlen]
    refine ⟨true, (show TruV K (V.bl (decide ((((chg (along t pss k)).1 : Nat) : Int) = ((chg (along t pss k)).1 : Nat)))) H9 true by rw [decide_eq_true rfl]; rfl), ?_⟩
    refine iteT ?_
    refine ⟨_, rfl, n6, _, rfl, s9 _ _ en8, by (first | lia | omega), fun r10 H10 m10 s10 e10 => ?_⟩
    have S10 := S8.mono (s9.trans s10)
    refine ⟨_, rfl, _, rfl, _, rfl, vt, t, a, bs, pss, k, rfl, ⟨S10.tr, by (first | lia | omega), S10.pa, S10.pg, by (first | lia | omega), fun y hy => (S.kf y).mp hy⟩, fun r11 H11 m11 s11 e11 => ?_⟩
    refine eq_ints (s11 _ _ e10) e11 ?_
    rw [decide_eq_true (rn_dd _)]
    have s6b := s68.trans (s9.trans (s10.trans s11))
    exact q H11 ((sBB1'.trans sB16).trans s6b) (tb_mono T8 (s9.trans (s10.trans s11)))
end
end K36
namespace K36
open PySem L2 L3
theorem mid_pair {ks : List Int} (pw : ks.Pairwise (· < ·)) {i : Nat} {x : Int} (h : ks[i]? = some x) : ∃ hi, ks[min (i + 1) (ks.length - 1)]? = some hi ∧ x ≤ hi ∧ mid x hi ks = (ks.drop i).take 2 := by
  obtain ⟨hil, hx⟩ := List.getElem?_eq_some_iff.mp h
  have hd : ks.drop i = x :: ks.drop (i + 1) := by rw [List.drop_eq_getElem_cons hil, hx]
  have hsp : ks = ks.take i ++ x :: ks.drop (i + 1) := by rw [← hd, List.take_append_drop]
  have pw' := pw
  rw [hsp] at pw'
  obtain ⟨_, p2, p3⟩ := List.pairwise_append.mp pw'
  obtain ⟨p4, p5⟩ := List.pairwise_cons.mp p2
  have hlo : ∀ hi, mid x hi (ks.take i) = [] := fun hi => by
    unfold mid
    rw [List.filter_eq_nil_iff]
    intro y hy
    have := p3 y hy x (by simp)
    simp; (first | lia | omega)
  cases hr : ks.drop (i + 1) with
  | nil =>
    have hl : ks.length ≤ i + 1 := by
      have := congrArg List.length hr
      rw [List.length_drop] at this
      simp at this; (first | lia | omega)
    refine ⟨x, by rw [show min (i + 1) (ks.length - 1) = i by (first | lia | omega)]; exact h, Int.le_refl _, ?_⟩
    rw [hd, hr]
    have : mid x x ks = mid x x (ks.take i) ++ mid x x [x] := by
      conv => lhs; rw [hsp, hr]
      unfold mid
      rw [List.filter_append]
    rw [this, hlo]
    unfold mid
    simp
  | cons y r =>
    have hl : i + 1 < ks.length := by
      have := congrArg List.length hr
      rw [List.length_drop] at this
      simp at this; (first | lia | omega)
    have hy : ks[i + 1]? = some y := by
      have := List.getElem?_drop (xs := ks) (i := i + 1) (j := 0)
      rw [hr] at this
      simpa using this.symm
    have hxy : x < y := p4 y (by rw [hr]; simp)
    refine ⟨y, by rw [show min (i + 1) (ks.length - 1) = i + 1 by (first | lia | omega)]; exact hy, by (first | lia | omega), ?_⟩
    rw [hd, hr]
    have : mid x y ks = mid x y (ks.take i) ++ mid x y (x :: y :: r) := by
      conv => lhs; rw [hsp, hr]
      unfold mid
      rw [List.filter_append]
    rw [this, hlo]
    rw [hr] at p5
    have p6 := (List.pairwise_cons.mp p5).1
    have hr0 : r.filter (fun z => decide (x ≤ z) && decide (z ≤ y)) = [] := by
      rw [List.filter_eq_nil_iff]
      intro z hz
      have := p6 z hz
      simp; (first | lia | omega)
    unfold mid
    rw [List.filter_cons, if_pos (by simp; (first | lia | omega)), List.filter_cons, if_pos (by simp; (first | lia | omega)), hr0]
    rfl
theorem up_next {ks : List Int} (pw : ks.Pairwise (· < ·)) {i : Nat} {x : Int} (h : ks[i]? = some x) {v : V} (hb : BU ks (x + 1) v) : atI (((ks.drop i).take 2).map V.int ++ [V.non]) 1 = some v := by
  obtain ⟨hil, hx⟩ := List.getElem?_eq_some_iff.mp h
  have hd : ks.drop i = x :: ks.drop (i + 1) := by rw [List.drop_eq_getElem_cons hil, hx]
  have hsp : ks = ks.take i ++ x :: ks.drop (i + 1) := by rw [← hd, List.take_append_drop]
  have pw' := pw
  rw [hsp] at pw'
  obtain ⟨_, p2, p3⟩ := List.pairwise_append.mp pw'
  obtain ⟨p4, p5⟩ := List.pairwise_cons.mp p2
  have hbig : ∀ y ∈ ks, x + 1 ≤ y → y ∈ ks.drop (i + 1) := fun y hy hk => by
    rw [hsp] at hy
    rcases List.mem_append.mp hy with hy | hy
    · have := p3 y hy x (by simp); (first | lia | omega)
    · rcases List.mem_cons.mp hy with hy | hy
      · (first | lia | omega)
      · exact hy
  refine atI_nat (j := 1) ?_
  rw [hd]
  cases hr : ks.drop (i + 1) with
  | nil =>
    rcases hb with ⟨rfl, _⟩ | ⟨M, rfl, h1, h2, _⟩
    · rfl
    · have := hbig M h1 h2
      rw [hr] at this; simp at this
  | cons y r =>
    have hym : y ∈ ks.drop (i + 1) := by rw [hr]; simp
    have hxy : x < y := p4 y hym
    have : v = .int y := hb.uniq (.inr ⟨y, rfl, List.mem_of_mem_drop hym, by (first | lia | omega), fun z hz hk => by
      have := hbig z hz hk
      rw [hr] at this p5
      rcases List.mem_cons.mp this with h | h
      · (first | lia | omega)
      · have := (List.pairwise_cons.mp p5).1 z h; (first | lia | omega)⟩)
    rw [this]; rfl
theorem bu_ex {ks : List Int} (pw : ks.Pairwise (· < ·)) (k : Int) : ∃ v, BU ks k v := by
  have inn : ∀ y ∈ ks, k ≤ y → y ∈ ks.filter (fun y => decide (k ≤ y)) := fun y hy hk => List.mem_filter.mpr ⟨hy, decide_eq_true hk⟩
  cases hz : ks.filter (fun y => decide (k ≤ y)) with
  | nil =>
    refine ⟨.non, .inl ⟨rfl, fun y hy hk => ?_⟩⟩
    have := inn y hy hk
    rw [hz] at this; simp at this
  | cons z zs =>
    have hm : z ∈ ks.filter (fun y => decide (k ≤ y)) := by rw [hz]; simp
    have pf : (z :: zs).Pairwise (· < ·) := by rw [← hz]; exact pw.sublist List.filter_sublist
    refine ⟨.int z, .inr ⟨z, rfl, (List.mem_filter.mp hm).1, of_decide_eq_true (List.mem_filter.mp hm).2, fun y hy hk => ?_⟩⟩
    have := inn y hy hk
    rw [hz] at this
    rcases List.mem_cons.mp this with h | h
    · (first | lia | omega)
    · have := (List.pairwise_cons.mp pf).1 y h; (first | lia | omega)
theorem cut_two (ks : List Int) {i : Nat} (h : i < ks.length) : cutV (ks.map V.int) (some (i : Int)) (some ((i : Int) + 2)) = ((ks.drop i).take 2).map V.int := by
  unfold cutV
  rw [show ((i : Int) + 2) = ((i + 2 : Nat) : Int) by (first | lia | omega), HT.sIx_nat, HT.sIx_nat, List.length_map, Nat.min_eq_left (Nat.le_of_lt h), List.map_take, List.map_drop]
  by_cases hc : i + 2 ≤ ks.length
  · rw [Nat.min_eq_left hc]; congr 1; (first | lia | omega)
  · rw [Nat.min_eq_right (by (first | lia | omega)), List.take_of_length_le (by rw [List.length_drop, List.length_map]; (first | lia | omega)), List.take_of_length_le (by rw [List.length_drop, List.length_map]; (first | lia | omega))]
theorem keys_lt {t : Tr} (ho : t.ord none none) : t.keys.Pairwise (· < ·) := ord_rise t _ _ ho
noncomputable def spNb (Pt : Addr) : Sp := fun vs H Q _ => ∃ (vt : V) (a ka : Addr) (c : Int) (i : Nat) (bs : List Addr) (t : Tr) (pss : List (List Int)), vs = [vt, .ref a, .ref ka, .int c] ∧ c = (i : Int) ∧ i < t.keys.length ∧ S36 (rm Pt H) vt a bs t pss ∧ H ka = some (.lst (t.keys.map V.int)) ∧ TB Pt posT qT H ∧ ∀ H', Same (rm Pt H) H' → TB Pt posT qT H' → Q (.bl true) H'
section
variable {P : Program} {w : World} {K : PySem.W.Frag} {mg : Str → Option Value} {base : Heap}
theorem ok_nb {f Pt : Addr} (F : Fd K mg "_law_neighbours" s_law_neighbours f) (T : Tx K mg) (C_stored : Cal P w K mg base CX0 5 "stored" spStored) (C_law_reader : Cal P w K mg base CX0 1 "_law_reader" (spReader mg Pt)) (C_nearest : Cal P w K mg base CX0 3 "nearest" (spNearest P w K mg base)) (C_between : Cal P w K mg base CX0 84 "between" (spBetween P w K mg base)) : Cal P w K mg base CX0 85 "_law_neighbours" (spNb Pt) := by
  refine F.cal sc_law_neighbours (fun _ _ _ _ _ _ us hl => L3.bind4 (fun _ _ _ _ => rfl) us hl) (fun vs H Q E h => ?_) (fun cdv A outer s H vs Q E hr h => ?_)
  · obtain ⟨_, _, _, _, _, _, _, _, rfl, _⟩ := h; rfl
  · obtain ⟨vt, a, ka, c, i, bs, t, pss, rfl, rfl, hil, S, eka, hT, q⟩ := h
    have hpl := S.pl
    have hfl := S.fl
    have hht := S.ht
    have hsz := S.sz
    have pw := keys_lt S.ord
    have hkl := Tr.keys_length t
    obtain ⟨x, hx⟩ : ∃ x, t.keys[i]? = some x := ⟨_, List.getElem?_eq_getElem hil⟩
    have hxm := List.mem_of_getElem? hx
    have hrnl : ∀ k, (rn (along t pss k)).length ≤ 71 := fun k => by
      have h1 := rn_len (along t pss k)
      have h2 : (along t pss k).length = (way k t).length := List.length_map _
      have h3 := way_len k t
      (first | lia | omega)
    have hat : atI (t.keys.map V.int) (i : Int) = some (.int x) := atI_nat (j := i) (by rw [List.getElem?_map, hx]; rfl)
    obtain ⟨hi, hhi, hxh, hmid⟩ := mid_pair pw hx
    have hat2 : atI (t.keys.map V.int) (if ((t.keys.map V.int).length : Int) - 1 < (i : Int) + 1 then ((t.keys.map V.int).length : Int) - 1 else (i : Int) + 1) = some (.int hi) := by
      have : (if ((t.keys.map V.int).length : Int) - 1 < (i : Int) + 1 then ((t.keys.map V.int).length : Int) - 1 else (i : Int) + 1) = ((min (i + 1) (t.keys.length - 1) : Nat) : Int) := by
        rw [List.length_map]; split <;> (first | lia | omega)
      rw [this]
      exact atI_nat (by rw [List.getElem?_map, hhi]; rfl)
    have S0 := S.mono rm_same
    refine ⟨_, (bcons (sasg (qF C_stored (hr.mono (by (first | lia | omega))) pass0 rfl (qcons (qv 0) (qcons (qv 1) qnil))) (gtup (n := 2) K rfl (gscons (gname (i := 4) sc_law_neighbours.nd rfl (by first | exact Or.inl rfl | exact Or.inr rfl)) (gscons (gname (i := 5) sc_law_neighbours.nd rfl (by first | exact Or.inl rfl | exact Or.inr rfl)) gsnil))))
      (bcons (sset (i := 6) sc_law_neighbours.nd rfl (by first | exact Or.inl rfl | exact Or.inr rfl) (qF C_law_reader (hr.mono (by (first | lia | omega))) pass0 rfl (qcons (qv 5) (qcons (qlst qnil) qnil))))
      (bcons (sif (tcmp (rNeq hr) (qF C_nearest (hr.mono (by (first | lia | omega))) pass0 rfl (qcons (qv 6) (qcons (qv 4) (qcons (qix (xIx K) (qv 2) (qv 3) (fun _ _ => rfl)) qnil)))) (qtup (qcons (qix (xIx K) (qv 2) (qv 3) (fun _ _ => rfl)) (qcons (qix (xIx K) (qv 2) (qv 3) (fun _ _ => rfl)) qnil))) (nomark _)) (bone (sret qbl)) bnil)
      (bcons (sif (tcmp (rNotInn K) (qop rAdd (qix (xIx K) (qv 2) (qv 3) (fun _ _ => rfl)) qint) (qv 2) (by with_unfolding_all rfl)) (bcons (sset (i := 7) sc_law_neighbours.nd rfl (by first | exact Or.inl rfl | exact Or.inr rfl) (qix (xIx K) (qop rAdd (qslice (xSl K) (qv 2) (osome (qv 3)) (osome (qop rAdd (qv 3) qint))) (qlst (qcons qnon qnil))) qint (fun _ _ => rfl)))
        (bone (sif (tcmp (rNeq hr) (qF C_nearest (hr.mono (by (first | lia | omega))) pass0 rfl (qcons (qv 6) (qcons (qv 4) (qcons (qop rAdd (qix (xIx K) (qv 2) (qv 3) (fun _ _ => rfl)) qint) qnil)))) (qtup (qcons (qix (xIx K) (qv 2) (qv 3) (fun _ _ => rfl)) (qcons (qv 7) qnil))) (nomark _)) (bone (sret qbl)) bnil))) bnil)
      (bone (sret (qcmp (rEqq hr) (qF C_between (hr.mono (by (first | lia | omega))) pass0 rfl (qcons (qv 6) (qcons (qv 4) (qcons (qix (xIx K) (qv 2) (qv 3) (fun _ _ => rfl)) (qcons (qix (xIx K) (qv 2) (qB fMin2 rfl T.b_min bt_min (qcons (qop rAdd (qv 3) qint) (qcons (qop rSub (qB (fLen K) rfl T.b_len bt_len (qcons (qv 2) qnil)) qint) qnil))) (fun _ _ => rfl)) qnil))))) (qslice (xSl K) (qv 2) (osome (qv 3)) (osome (qop rAdd (qv 3) qint))) (nomark _)))))))), ?_⟩
    refine ⟨_, rfl, _, rfl, vt, t, a, bs, pss, rfl, S0.tr, S.ord, S0.pa, S0.pg, S.nd, by (first | lia | omega), by (first | lia | omega), S.kf, fun st rl rs tv H1 n1 s1 est gtop erl hrw _ _ _ => ?_⟩
    have T1 := tb_mono hT s1
    have St1 := St36.tb T1 gtop erl hrw
    have eka1 := s1 _ _ eka
    refine ⟨st, _, rfl, SqT.of est, rfl, _, _, rfl, _, _, rfl, rfl, ?_⟩
    refine ⟨_, rfl, (show 0 ≤ sizeLine by decide), fun n2 H2 m2 s2 e2 _ => ?_⟩
    have T2 := tb_mono T1 s2
    have hnP := tb_ne T2 e2
    have eka2 := s2 _ _ eka1
    generalize hB2 : rm n2 (rm Pt H2) = B2
    have B2n : B2 n2 = none := by rw [← hB2]; exact rm_self
    have s2P : Same B2 (rm Pt H2) := by rw [← hB2]; exact rm_same
    have n12 : rm Pt H1 n2 = none := rm_fresh m2
    have sB12 : Same (rm Pt H1) B2 := by rw [← hB2]; exact rm_of (rm_of (rm_same.trans s2) rm_self) n12
    have sB2 : Same (rm Pt H) B2 := (rm_of (rm_same.trans s1) rm_self).trans sB12
    have ekB : B2 ka = some (.lst (t.keys.map V.int)) := by
      rw [← hB2, rm_ne (fun z => by rw [z, m2] at eka1; cases eka1), rm_ne (tb_ne T2 eka2)]; exact eka2
    have St2 := St1.mono sB12
    refine ⟨rl, n2, rfl, T2, fun f3 c3 L3 doc3 ctv3 H3 m3 s3 T3 R3 => ?_⟩
    have e3 := rm_look s3 e2 hnP
    have sB3 : Same B2 H3 := s2P.trans s3
    have ok3 : RdOk P w K mg base (rm n2 H3) f3 n2 t pss tv := rd_ok T S St2 (rm_of sB3 B2n) e3 R3
    have step : ∀ {H4 : Hp}, Same (rm n2 H3) H4 → Same B2 H4 ∧ RdOk P w K mg base (rm n2 H4) f3 n2 t pss tv := fun s4 => ⟨(rm_of sB3 B2n).trans s4, ok3.mono (rm_of s4 rm_self) rm_self⟩
    refine ⟨_, rfl, _, rfl, _, rfl, _, rfl, ka, _, _, _, rfl, rfl, .inl (SqL.of (sB3 _ _ ekB)), hat, f3, tv, x, n2, t, pss, [], rfl, ok3, e3, by simp, fun r4 lo up H4 m4 s4 en4 er4 hlo hup => ?_⟩
    obtain ⟨sB4, ok4⟩ := step s4
    have T4 := tb_mono (tb_rm T3 e3) s4
    have hl4 : (([] : List V) ++ (rn (along t pss x)).map V.int).length ≤ 71 := by rw [List.nil_append, List.length_map]; exact hrnl x
    obtain rfl : lo = .int x := hlo.uniq (.inr ⟨x, rfl, hxm, Int.le_refl _, fun _ _ h => h⟩)
    obtain rfl : up = .int x := hup.uniq (.inr ⟨x, rfl, hxm, Int.le_refl _, fun _ _ h => h⟩)
    refine ⟨_, rfl, _, rfl, ka, _, _, _, rfl, rfl, .inl (SqL.of (sB4 _ _ ekB)), hat, _, rfl, _, rfl, ka, _, _, _, rfl, rfl, .inl (SqL.of (sB4 _ _ ekB)), hat, (show 2 ≤ sizeLine by decide), fun r5 H5 m5 s5 e5 _ => ?_⟩
    refine ne_same (e := .tup [.int x, .int x]) (.tup (s5 _ _ er4) (.cons (.int _) (.cons (.int _) .nil))) (.tup e5 (.cons (.int _) (.cons (.int _) .nil))) rfl (by simp [D.dep, deps]) ?_
    refine ⟨_, rfl, ?_⟩
    refine iteF ?_
    have s35 : Same (rm n2 H3) H5 := s4.trans s5
    have T5 := tb_mono T4 s5
    have sB5 := sB4.trans s5
    have en5 := s5 _ _ en4
    generalize hns : ([] : List V) ++ (rn (along t pss x)).map V.int = ns5 at *
    apply join (fun σ' H' => ∃ z7 ns, σ' = [some vt, some (.ref a), some (.ref ka), some (.int (i : Int)), some tv, some (.ref rl), some (.ref f3), z7] ∧ Same (rm n2 H3) H' ∧ TB Pt posT qT H' ∧ H' n2 = some (.lst ns) ∧ ns.length ≤ 200)
    case h2 =>
      intro hj
      refine ⟨_, rfl, _, rfl, ka, _, _, _, rfl, rfl, .inl (SqL.of (sB5 _ _ ekB)), hat, ?_⟩
      refine ⟨_, rfl, ka, _, rfl, .inl (SqL.of (sB5 _ _ ekB)), rfl, flat_ints _, ?_⟩
      rw [if_pos rfl, inV_ints]
      refine ⟨_, rfl, ?_⟩
      by_cases hm : x + 1 ∈ t.keys
      · rw [decide_eq_true hm]
        refine iteF ?_
        exact hj _ _ ⟨none, ns5, rfl, s35, T5, en5, by (first | lia | omega)⟩
      · rw [decide_eq_false hm]
        refine iteT ?_
        refine ⟨_, rfl, _, rfl, _, rfl, _, rfl, _, rfl, ka, _, rfl, SqL.of (sB5 _ _ ekB), fun c6 H6 m6 s6 e6 _ => ?_⟩
        rw [cut_two t.keys hil] at e6
        refine ⟨(show 1 ≤ sizeLine by decide), fun c7 H7 m7 s7 e7 _ => ?_⟩
        refine ⟨_, _, s7 _ _ e6, e7, sizeBig' (by simp; (first | lia | omega)), fun c8 H8 m8 s8 e8 _ => ?_⟩
        have s58 := s6.trans (s7.trans s8)
        obtain ⟨sB8, ok8⟩ := step (s35.trans s58)
        have T8 := tb_mono T5 s58
        have en8 := s58 _ _ en5
        obtain ⟨va, hva⟩ : ∃ va, atI (((t.keys.drop i).take 2).map V.int ++ [V.non]) 1 = some va ∧ ∀ v, BU t.keys (x + 1) v → v = va := by
          have hbu := bu_ex pw (x + 1)
          obtain ⟨v, hv⟩ := hbu
          exact ⟨v, up_next pw hx hv, fun u hu => hu.uniq hv⟩
        refine ⟨c8, _, 1, va, rfl, rfl, .inl (SqL.of e8), hva.1, ?_⟩
        refine ⟨_, rfl, _, rfl, _, rfl, _, rfl, ka, _, _, _, rfl, rfl, .inl (SqL.of (sB8 _ _ ekB)), hat, f3, tv, x + 1, n2, t, pss, ns5, rfl, ok8, en8, by (first | lia | omega), fun r9 lo up H9 m9 s9 en9 er9 hlo hup => ?_⟩
        obtain ⟨sB9, _⟩ := step ((rm_of (s35.trans s58) rm_self).trans s9)
        have T9 := tb_mono (tb_rm T8 en8) s9
        obtain rfl : lo = .int x := hlo.uniq (.inr ⟨x, rfl, hxm, by (first | lia | omega), fun y hy h => by
          have : y ≠ x + 1 := fun z => hm (z ▸ hy)
          (first | lia | omega)⟩)
        obtain rfl : up = va := hva.2 up hup
        obtain ⟨du, gu⟩ := bu_d hup
        refine ⟨_, rfl, _, rfl, ka, _, _, _, rfl, rfl, .inl (SqL.of (sB9 _ _ ekB)), hat, _, rfl, (show 2 ≤ sizeLine by decide), fun r10 H10 m10 s10 e10 _ => ?_⟩
        refine ne_same (e := .tup [.int x, du]) (.tup (s10 _ _ er9) (.cons (.int _) (.cons (gu.1 H10) .nil))) (.tup e10 (.cons (.int _) (.cons (gu.1 H10) .nil))) (by rw [D.pure, pures, pures, pures, gu.2.1]; rfl) (by rw [D.dep, deps, deps, deps, gu.2.2]; simp [D.dep]) ?_
        refine ⟨_, rfl, ?_⟩
        refine iteF ?_
        refine hj _ _ ⟨_, _, rfl, ((rm_of (s35.trans s58) rm_self).trans s9).trans s10, tb_mono T9 s10, s10 _ _ en9, ?_⟩
        rw [List.length_append, List.length_map]
        have := hrnl (x + 1)
        (first | lia | omega)
    rintro σ H6 ⟨z7, ns, rfl, s36, T6, en6, hnl⟩
    obtain ⟨sB6, ok6⟩ := step s36
    refine ⟨_, rfl, _, rfl, _, rfl, _, rfl, ka, _, _, _, rfl, rfl, .inl (SqL.of (sB6 _ _ ekB)), hat, ?_⟩
    refine ⟨_, rfl, _, rfl, _, rfl, ka, _, rfl, .inl (SqL.of (sB6 _ _ ekB)), _, _, rfl, rfl, _, _, rfl, ka, _, _, _, rfl, rfl, .inl (SqL.of (sB6 _ _ ekB)), hat2, f3, tv, x, hi, n2, t, pss, ns, rfl, ok6, by (first | lia | omega), by (first | lia | omega), by (first | lia | omega), by (first | lia | omega), en6, fun r7 H7 ps m7 s7 en7 _ e7 => ?_⟩
    rw [if_pos hxh, hmid] at e7
    obtain ⟨sB7, _⟩ := step ((rm_of s36 rm_self).trans s7)
    have T7 := tb_mono (tb_rm T6 en6) s7
    refine ⟨_, rfl, _, rfl, _, rfl, _, rfl, _, rfl, ka, _, rfl, SqL.of (sB7 _ _ ekB), fun c8 H8 m8 s8 e8 _ => ?_⟩
    rw [cut_two t.keys hil] at e8
    refine eq_ints (s8 _ _ e7) e8 ?_
    rw [decide_eq_true rfl]
    exact q H8 (sB2.trans (sB7.trans s8)) (tb_mono T7 s8)
end
end K36
namespace K36
open PySem L2 L3
theorem mid_all {ks : List Int} (pw : ks.Pairwise (· < ·)) {lo hi : Int} (h0 : ks[0]? = some lo) (h1 : ks.getLast? = some hi) : lo ≤ hi ∧ mid lo hi ks = ks := by
  have hle : ∀ y ∈ ks, lo ≤ y ∧ y ≤ hi := fun y hy => by
    constructor
    · cases ks with
      | nil => simp at hy
      | cons z zs =>
        simp at h0
        subst h0
        rcases List.mem_cons.mp hy with h | h
        · (first | lia | omega)
        · have := (List.pairwise_cons.mp pw).1 y h; (first | lia | omega)
    · rcases List.eq_nil_or_concat ks with rfl | ⟨zs, z, rfl⟩
      · simp at hy
      · rw [List.concat_eq_append] at *
        have : z = hi := by simpa using h1
        subst this
        rcases List.mem_append.mp hy with h | h
        · have := (List.pairwise_append.mp pw).2.2 y h z (by simp); (first | lia | omega)
        · simp at h; (first | lia | omega)
  refine ⟨?_, ?_⟩
  · have := hle lo (List.mem_of_getElem? h0); (first | lia | omega)
  · unfold mid
    rw [List.filter_eq_self]
    intro y hy
    have := hle y hy
    simp; (first | lia | omega)
noncomputable def spAll (Pt : Addr) : Sp := fun vs H Q _ => ∃ (vt : V) (a : Addr) (bs : List Addr) (t : Tr) (pss : List (List Int)), vs = [vt, .ref a] ∧ S36 (rm Pt H) vt a bs t pss ∧ TB Pt posT qT H ∧ ∀ H', Same (rm Pt H) H' → TB Pt posT qT H' → Q (.bl true) H'
section
variable {P : Program} {w : World} {K : PySem.W.Frag} {mg : Str → Option Value} {base : Heap}
theorem ok_all {f Pt : Addr} (F : Fd K mg "_law_all_right" s_law_all_right f) (T : Tx K mg) (C_keys_of : Cal P w K mg base CX0 82 "keys_of" (spKof 82)) (C_stored : Cal P w K mg base CX0 5 "stored" spStored) (C_law_reader : Cal P w K mg base CX0 1 "_law_reader" (spReader mg Pt)) (C_between : Cal P w K mg base CX0 84 "between" (spBetween P w K mg base)) (C_law_looked_up : Cal P w K mg base CX0 6 "_law_looked_up" (spLk Pt)) (C_law_neighbours : Cal P w K mg base CX0 85 "_law_neighbours" (spNb Pt)) : Cal P w K mg base CX0 86 "_law_all_right" (spAll Pt) := by
  refine F.cal sc_law_all_right (fun _ _ _ _ _ _ us hl => L3.bind2 (fun _ _ => rfl) us hl) (fun vs H Q E h => ?_) (fun cdv A outer s H vs Q E hr h => ?_)
  · obtain ⟨_, _, _, _, _, rfl, _⟩ := h; rfl
  · obtain ⟨vt, a, bs, t, pss, rfl, S, hT, q⟩ := h
    have hpl := S.pl
    have hfl := S.fl
    have hht := S.ht
    have hsz := S.sz
    have pw := keys_lt S.ord
    have hkl := Tr.keys_length t
    have S00 := S.mono rm_same
    refine ⟨_, (bcons (sset (i := 2) sc_law_all_right.nd rfl (by first | exact Or.inl rfl | exact Or.inr rfl) (qF C_keys_of (hr.mono (by (first | lia | omega))) pass0 rfl (qcons (qv 0) qnil)))
      (bcons (sasg (qF C_stored (hr.mono (by (first | lia | omega))) pass0 rfl (qcons (qv 0) (qcons (qv 1) qnil))) (gtup (n := 2) K rfl (gscons (gname (i := 3) sc_law_all_right.nd rfl (by first | exact Or.inl rfl | exact Or.inr rfl)) (gscons (gname (i := 4) sc_law_all_right.nd rfl (by first | exact Or.inl rfl | exact Or.inr rfl)) gsnil))))
      (bcons (ssetC (i := 5) (sc := defScope s_law_all_right) (NX := ["_law_tree", "_law_pages", "_law_keys_here", "_law_top", "_law_rows", "_law_kept", "_law_tells", "_law_k", "_law_beside"]) ["_law_row"] [none] rfl sc_law_all_right.nd rfl rfl (iseq K (qv 4)) (fun _ _ _ => (gname (i := 0) (show (["_law_row"] : List Str).Nodup by decide +kernel) rfl (by first | exact Or.inl rfl | exact Or.inr rfl))) (fun _ _ _ => csnil) (fun _ _ _ => (qTy (fList K) rfl T.b_list bt_list (qcons (qv 0) qnil))) rfl rfl (by decide +kernel) rfl)
      (bcons (sset (i := 6) sc_law_all_right.nd rfl (by first | exact Or.inl rfl | exact Or.inr rfl) (qF C_law_reader (hr.mono (by (first | lia | omega))) pass0 rfl (qcons (qv 4) (qcons (qlst qnil) qnil))))
      (bcons (sif (QW.tst (wor (QW.tst (wand (tcmp (rNeq hr) (qv 2) (qlst qnil) (nomark _)) (wand1 (tcmp (rNeq hr) (qF C_between (hr.mono (by (first | lia | omega))) pass0 rfl (qcons (qv 6) (qcons (qv 3) (qcons (qix (xIx K) (qv 2) qint (fun _ _ => rfl)) (qcons (qix (xIx K) (qv 2) (qun rNeg qint) (fun _ _ => rfl)) qnil))))) (qv 2) (nomark _))))) (wor1 (tcmp (rNeq hr) (qv 4) (qv 5) (nomark _))))) (bone (sret qbl)) bnil)
      (bcons (sfor PassesOwn.never rfl (irange1 rfl T.b_range (qcons (qB (fLen K) rfl T.b_len bt_len (qcons (qv 2) qnil)) qnil)) (gname (i := 7) sc_law_all_right.nd rfl (by first | exact Or.inl rfl | exact Or.inr rfl))
        (bcons (sif (QW.tst (wor (tnot (ttru K (qF C_law_looked_up (hr.mono (by (first | lia | omega))) pass0 rfl (qcons (qv 0) (qcons (qv 1) (qcons (qix (xIx K) (qv 2) (qv 7) (fun _ _ => rfl)) (qcons qbl qnil))))) (fun _ => rfl))) (wor1 (tnot (ttru K (qF C_law_neighbours (hr.mono (by (first | lia | omega))) pass0 rfl (qcons (qv 0) (qcons (qv 1) (qcons (qv 2) (qcons (qv 7) qnil))))) (fun _ => rfl)))))) (bone (sret qbl)) bnil)
        (bone (sfor PassesOwn.never rfl (iseq K (qlst (qcons (qop rSub (qix (xIx K) (qv 2) (qv 7) (fun _ _ => rfl)) qint) (qcons (qop rAdd (qix (xIx K) (qv 2) (qv 7) (fun _ _ => rfl)) qint) qnil)))) (gname (i := 8) sc_law_all_right.nd rfl (by first | exact Or.inl rfl | exact Or.inr rfl))
          (bone (sif (QW.tst (wand (tcmp (rNotInn K) (qv 8) (qv 2) (by with_unfolding_all rfl)) (wand1 (tnot (ttru K (qF C_law_looked_up (hr.mono (by (first | lia | omega))) pass0 rfl (qcons (qv 0) (qcons (qv 1) (qcons (qv 8) (qcons qbl qnil))))) (fun _ => rfl)))))) (bone (sret qbl)) bnil))))))
      (bone (sret qbl)))))))), ?_⟩
    refine ⟨_, rfl, vt, t, rfl, S00.tr, by (first | lia | omega), by (first | lia | omega), fun ka H0 n0 s0 eka => ?_⟩
    have T0 := tb_mono hT s0
    have S0 := S.mono (rm_same.trans s0)
    refine ⟨_, rfl, _, rfl, vt, t, a, bs, pss, rfl, S0.tr, S.ord, S0.pa, S0.pg, S.nd, by (first | lia | omega), by (first | lia | omega), S.kf, fun st rl rs tv H1 n1 s1 est gtop erl hrw _ _ _ => ?_⟩
    have T1 := tb_mono T0 s1
    have St1 := St36.tb T1 gtop erl hrw
    have eka1 := s1 _ _ eka
    have sB1' : Same (rm Pt H1) H1 := rm_same
    have sBB1' : Same (rm Pt H) (rm Pt H1) := rm_of (rm_same.trans (s0.trans s1)) rm_self
    have B1P' : rm Pt H1 Pt = none := rm_self
    generalize rm Pt H1 = B1 at St1 sB1' sBB1' B1P'
    have hrl : rs.length = pss.length := hrw.len
    refine ⟨st, _, rfl, SqT.of est, rfl, _, _, rfl, _, _, rfl, rfl, ?_⟩
    refine ⟨_, rfl, rl, rfl, .inl ⟨⟨_, SqL.of erl⟩, fun acc ha => ?_⟩⟩
    refine comp_list (xs := rs.map V.ref) (fun i zs σ H' => ∃ z cs, σ = [z] ∧ Same H1 H' ∧ H' acc = some (.lst zs) ∧ zs = cs.map V.ref ∧ cs.length = i ∧ (∀ c ∈ cs, c ≠ acc) ∧ Kp t pss B1 H' cs (pss.take i)) ⟨none, [], rfl, same_new ha, upd_same, rfl, rfl, by simp, by simp; exact trivial⟩ (fun i ys σ H' hh => by obtain ⟨_, _, _, s', _⟩ := hh; exact SqL.of (s' _ _ erl)) ?_ ?_
    · rintro i zs y σ H2 hy hi' ⟨z, cs, rfl, s2, e2, rfl, hcl, hca, g2⟩
      rw [List.getElem?_map] at hy
      obtain ⟨b, hb, rfl⟩ := Option.map_eq_some_iff.mp hy
      rw [List.length_map] at hi'
      obtain ⟨qi, hqi⟩ : ∃ qi, pss[i]? = some qi := ⟨_, List.getElem?_eq_getElem (by (first | lia | omega))⟩
      obtain ⟨b', ws, hb', eb, hreps⟩ := St1.rw.at hqi
      rw [hb] at hb'
      cases hb'
      refine ⟨_, rfl, b, ws, rfl, .inl (SqL.of (s2 _ _ (sB1' _ _ eb))), fun r3 H3 n3 s3 e3 _ => ?_⟩
      have hr3 : r3 ≠ acc := fun z => by rw [z, e2] at n3; cases n3
      have ea3 := s3 _ _ e2
      refine cpost ea3 (sizeBig (by rw [List.length_map]; (first | lia | omega))) (by rw [List.length_map]; exact hi') ?_
      refine ⟨_, cs ++ [r3], rfl, same_upd (s2.trans s3) ha, upd_same, by rw [List.map_append]; rfl, by simp [hcl], fun c hc => ?_, ?_⟩
      · rcases List.mem_append.mp hc with hc | hc
        · exact hca c hc
        · rw [List.mem_singleton] at hc; subst hc; exact hr3
      · rw [List.take_add_one, hqi]
        exact Kp.snoc ⟨ws, by rw [upd_ne hr3]; exact e3, hreps⟩ (g2.to fun c hc vs e => by rw [upd_ne (hca c hc)]; exact s3 _ _ e)
    rintro zs σ H2 ⟨z, ks, rfl, s2, e2, rfl, hcl, hca, g2⟩
    rw [List.length_map, hrl, List.take_length] at g2
    refine ⟨_, rfl, (show 0 ≤ sizeLine by decide), fun n6 H6 m6 s6 e6 _ => ?_⟩
    have T6 := tb_mono T1 (s2.trans s6)
    have hnP := tb_ne T6 e6
    have B1n : B1 n6 = none := (sB1'.trans s2).free m6
    generalize hB6 : rm n6 (rm Pt H6) = B6
    have B6n : B6 n6 = none := by rw [← hB6]; exact rm_self
    have B6P : B6 Pt = none := by rw [← hB6]; exact rm_fresh rm_self
    have s6P : Same B6 (rm Pt H6) := by rw [← hB6]; exact rm_same
    have sB16 : Same B1 B6 := by rw [← hB6]; exact rm_of (rm_of (sB1'.trans (s2.trans s6)) B1P') B1n
    have b6 : ∀ {c vs}, H2 c = some (.lst vs) → B6 c = some (.lst vs) := fun {c vs} e => by
      rw [← hB6, rm_ne (fun z => by rw [z, m6] at e; cases e), rm_ne (tb_ne T6 (s6 _ _ e))]; exact s6 _ _ e
    have ekp : B6 acc = some (.lst (ks.map V.ref)) := b6 e2
    have ekB : B6 ka = some (.lst (t.keys.map V.int)) := b6 (s2 _ _ eka1)
    have gk : Rws t pss B6 ks pss := Kp.rws sB16 (g2.to fun c hc vs e => b6 e)
    have St6 := St1.mono sB16
    have S6 := S.mono (sBB1'.trans sB16)
    refine ⟨rl, n6, rfl, T6, fun f7 c7 L7 doc7 ctv7 H7 m7 s7 T7 R7 => ?_⟩
    have e7 := rm_look s7 e6 hnP
    have s67 : Same B6 H7 := s6P.trans s7
    have ok7 : RdOk P w K mg base (rm n6 H7) f7 n6 t pss tv := rd_ok T S St6 (rm_of s67 B6n) e7 R7
    apply join (fun σ' H' => σ' = [some vt, some (.ref a), some (.ref ka), some tv, some (.ref rl), some (.ref acc), some (.ref f7), none, none] ∧ Same B6 H' ∧ TB Pt posT qT H')
    case h2 =>
      intro hj
      refine ⟨_, rfl, (show 0 ≤ sizeLine by decide), fun l8 H8 m8 s8 e8 _ => ?_⟩
      have s68 := s67.trans s8
      refine ne_ints (ys := []) (s68 _ _ ekB) e8 ?_
      refine ⟨_, rfl, ?_⟩
      have same : ∀ {G : Hp}, Same B6 G → Rep G (.ref rl) (.lst (pss.map (rowD t pss))) ∧ Rep G (.ref acc) (.lst (pss.map (rowD t pss))) := fun s => ⟨.lst (s _ _ St6.rl) (St6.rw.mono s).reps, .lst (s _ _ ekp) (gk.mono s).reps⟩
      have hpu : (D.lst (pss.map (rowD t pss))).pure = true := by rw [D.pure]; exact rows_pures t pss pss
      have hde : (D.lst (pss.map (rowD t pss))).dep ≤ 140 := by rw [D.dep]; have := rows_deps t pss pss; (first | lia | omega)
      by_cases hk : t.keys = []
      · rw [decide_eq_true hk]
        refine iteF ?_
        refine ⟨_, rfl, _, rfl, ?_⟩
        refine ne_same (same s68).1 (same s68).2 hpu hde ?_
        refine ⟨_, rfl, ?_⟩
        refine iteF ?_
        exact hj _ _ ⟨rfl, s68, tb_mono T7 s8⟩
      · rw [decide_eq_false hk]
        refine iteT ?_
        obtain ⟨lo, h0⟩ : ∃ lo, t.keys[0]? = some lo := ⟨_, List.getElem?_eq_getElem (List.length_pos_iff.mpr hk)⟩
        obtain ⟨hi, h1⟩ : ∃ hi, t.keys.getLast? = some hi := ⟨_, List.getLast?_eq_some_getLast hk⟩
        obtain ⟨hle, hma⟩ := mid_all pw h0 h1
        have hat1 : atI (t.keys.map V.int) (-1) = some (.int hi) := by
          obtain ⟨zs, hz⟩ := List.getLast?_eq_some_iff.mp h1
          rw [hz, List.map_append]
          exact L2.atI_last _ _
        have ok8 : RdOk P w K mg base (rm n6 H8) f7 n6 t pss tv := ok7.mono (rm_of (rm_same.trans s8) rm_self) rm_self
        refine ⟨_, rfl, _, rfl, _, rfl, ka, _, 0, _, rfl, rfl, .inl (SqL.of (s68 _ _ ekB)), atI_nat (j := 0) (by rw [List.getElem?_map, h0]; rfl), _, rfl, _, rfl, ka, _, _, _, rfl, rfl, .inl (SqL.of (s68 _ _ ekB)), hat1, f7, tv, lo, hi, n6, t, pss, [], rfl, ok8, by (first | lia | omega), by simp, by (first | lia | omega), by (first | lia | omega), s8 _ _ e7, fun r9 H9 ps m9 s9 en9 _ e9 => ?_⟩
        rw [if_pos hle, hma] at e9
        have s69 : Same B6 H9 := (rm_of s68 B6n).trans s9
        have T9 := tb_mono (tb_rm (tb_mono T7 s8) (s8 _ _ e7)) s9
        refine ⟨_, rfl, ?_⟩
        refine ne_ints e9 (s69 _ _ ekB) ?_
        refine ⟨_, rfl, ?_⟩
        rw [decide_eq_true rfl]
        refine iteF ?_
        refine ⟨_, rfl, _, rfl, ?_⟩
        refine ne_same (same s69).1 (same s69).2 hpu hde ?_
        refine ⟨_, rfl, ?_⟩
        refine iteF ?_
        exact hj _ _ ⟨rfl, s69, T9⟩
    rintro σ G ⟨rfl, sG, TG⟩
    refine ⟨_, rfl, ka, _, rfl, .inl (SqL.of (sG _ _ ekB)), _, rfl, by (first | lia | omega), by rw [List.length_map]; (first | lia | omega), for_range (n := ((t.keys.map V.int).length : Int).toNat) (fun i σ H' => ∃ z7 z8, σ = [some vt, some (.ref a), some (.ref ka), some tv, some (.ref rl), some (.ref acc), some (.ref f7), z7, z8] ∧ Same B6 H' ∧ TB Pt posT qT H') ⟨none, none, rfl, sG, TG⟩ ?_ ?_⟩
    · rintro i σ G1 hi ⟨z7, z8, rfl, t1, T1'⟩
      have hi : i < t.keys.length := by rw [Int.toNat_natCast, List.length_map] at hi; exact hi
      obtain ⟨x, hx⟩ : ∃ x, t.keys[i]? = some x := ⟨_, List.getElem?_eq_getElem hi⟩
      have hat : atI (t.keys.map V.int) (0 + (i : Int)) = some (.int x) := by rw [Int.zero_add]; exact atI_nat (j := i) (by rw [List.getElem?_map, hx]; rfl)
      refine ⟨_, rfl, _, rfl, _, rfl, _, rfl, ka, _, _, _, rfl, rfl, .inl (SqL.of (t1 _ _ ekB)), hat, vt, a, x, true, bs, t, pss, rfl, S6.mono (rm_of t1 B6P), T1', (decide_eq_true (List.mem_of_getElem? hx)).symm, fun G2 u2 T2 => ?_⟩
      refine ⟨true, rfl, ?_⟩
      refine iteF ?_
      have t2 : Same B6 G2 := (rm_of t1 B6P).trans u2
      refine ⟨_, rfl, _, rfl, _, rfl, _, rfl, vt, a, ka, _, i, bs, t, pss, rfl, by (first | lia | omega), hi, S6.mono (rm_of t2 B6P), t2 _ _ ekB, T2, fun G3 u3 T3 => ?_⟩
      refine ⟨true, rfl, ?_⟩
      refine iteF ?_
      have t3 : Same B6 G3 := (rm_of t2 B6P).trans u3
      refine ⟨_, rfl, _, rfl, ka, _, _, _, rfl, rfl, .inl (SqL.of (t3 _ _ ekB)), hat, _, _, rfl, rfl, _, rfl, _, rfl, ka, _, _, _, rfl, rfl, .inl (SqL.of (t3 _ _ ekB)), hat, (show 2 ≤ sizeLine by decide), fun l4 G4 m4 u4 f4 _ => ?_⟩
      have t4 := t3.trans u4
      have T4 := tb_mono T3 u4
      generalize hB4 : rm Pt G4 = B4
      have B4P : B4 Pt = none := by rw [← hB4]; exact rm_self
      have s4P : Same B4 G4 := by rw [← hB4]; exact rm_same
      have s64 : Same B6 B4 := by rw [← hB4]; exact rm_of t4 B6P
      have el4 : B4 l4 = some (.lst [.int (x - 1), .int (x + 1)]) := by rw [← hB4, rm_ne (tb_ne T4 f4)]; exact f4
      refine ⟨l4, rfl, .inl ⟨⟨_, SqL.of f4⟩, for_list (xs := [.int (x - 1), .int (x + 1)]) (fun j σ H' => ∃ z, σ = [some vt, some (.ref a), some (.ref ka), some tv, some (.ref rl), some (.ref acc), some (.ref f7), some (.int (0 + (i : Int))), z] ∧ Same B4 H' ∧ TB Pt posT qT H') ⟨z8, rfl, s4P, T4⟩ (fun j σ H' _ hh => by obtain ⟨_, _, s', _⟩ := hh; exact SqL.of (s' _ _ el4)) ?_ ?_⟩⟩
      · rintro j y σ G5 hy ⟨z, rfl, t5, T5⟩
        obtain ⟨k, rfl⟩ : ∃ k, y = V.int k := by
          have := List.mem_of_getElem? hy
          simp only [List.mem_cons, List.not_mem_nil, or_false] at this
          rcases this with h | h
          · exact ⟨_, h⟩
          · exact ⟨_, h⟩
        have ek5 := t5 _ _ (s64 _ _ ekB)
        refine ⟨_, rfl, _, rfl, ka, _, rfl, .inl (SqL.of ek5), rfl, flat_ints _, ?_⟩
        rw [if_pos rfl, inV_ints]
        refine ⟨_, rfl, ?_⟩
        by_cases hm : k ∈ t.keys
        · rw [decide_eq_true hm]
          refine iteF ?_
          exact ⟨_, rfl, t5, T5⟩
        · rw [decide_eq_false hm]
          refine iteT ?_
          refine ⟨_, rfl, _, rfl, _, rfl, vt, a, k, false, bs, t, pss, rfl, (S6.mono s64).mono (rm_of t5 B4P), T5, (decide_eq_false hm).symm, fun G6 u6 T6' => ?_⟩
          refine ⟨true, rfl, ?_⟩
          refine iteF ?_
          exact ⟨_, rfl, (rm_of t5 B4P).trans u6, T6'⟩
      · rintro σ G5 ⟨z, rfl, t5, T5⟩
        exact ⟨_, _, rfl, s64.trans t5, T5⟩
    · rintro σ G1 ⟨z7, z8, rfl, t1, T1'⟩
      exact q G1 ((sBB1'.trans sB16).trans t1) T1'
end
end K36
namespace K36
open PySem L2 L3
noncomputable def spLaw (K : PySem.W.Frag) (Pt : Addr) : Sp := fun vs H Q _ => ∃ (a : Addr) (ns : List Int), vs = [.ref a] ∧ SqL K H a (ns.map V.int) ∧ ns.length ≤ 63 ∧ H Pt = some (.tbl #[]) ∧ ∀ H', Q (.bl true) H'
section
variable {P : Program} {w : World} {K : PySem.W.Frag} {mg : Str → Option Value} {base : Heap}
theorem ok_law {f Pt : Addr} {fd : FuncData} (F : Fun K "law" "law" s_law f fd) (T : Tx K mg) (C_law_pen : Cal P w K mg base CX0 1 "_law_pen" (spPen K)) (C_law_take : Cal P w K mg base CX0 1 "_law_take" spTake) (C_law_keys : Cal P w K mg base CX0 74 "_law_keys" spKeys) (C_tree_of : Cal P w K mg base CX0 81 "tree_of" spTof)
    (C_law_layout : Cal P w K mg base CX0 82 "_law_layout" spLayout) (C_law_all_right : Cal P w K mg base CX0 86 "_law_all_right" (spAll Pt)) (C_put : Cal P w K mg base CX0 83 "put" spPut0) : FnOk P w K mg base CX0 91 f fd ["_law_script"] (spLaw K Pt) := by
  refine okQ F sc_law (fun vs H Q E h => ?_) (fun cdv A outer s H vs Q E hr h => ?_)
  · obtain ⟨a, ns, rfl, _⟩ := h; rfl
  · obtain ⟨a, ns, rfl, ha, hl, eP, q⟩ := h
    have T0 : TB Pt posT qT H := ⟨#[], eP, trivial, .inl rfl⟩
    refine ⟨_, (bcons (sset (i := 1) sc_law.nd rfl (by first | exact Or.inl rfl | exact Or.inr rfl) (qF C_law_pen (hr.mono (by (first | lia | omega))) pass0 rfl (qcons (qv 0) (qcons qint qnil))))
      (bcons (sset (i := 2) sc_law.nd rfl (by first | exact Or.inl rfl | exact Or.inr rfl) (qF C_law_keys (hr.mono (by (first | lia | omega))) pass0 rfl (qcons (qv 1) (qcons qint qnil))))
      (bcons (sset (i := 3) sc_law.nd rfl (by first | exact Or.inl rfl | exact Or.inr rfl) (qF C_tree_of (hr.mono (by (first | lia | omega))) pass0 rfl (qcons (qv 2) qnil)))
      (bcons (sset (i := 4) sc_law.nd rfl (by first | exact Or.inl rfl | exact Or.inr rfl) (qF C_law_pen (hr.mono (by (first | lia | omega))) pass0 rfl (qcons (qv 0) (qcons qint qnil))))
      (bcons (sset (i := 5) sc_law.nd rfl (by first | exact Or.inl rfl | exact Or.inr rfl) (qF C_law_layout (hr.mono (by (first | lia | omega))) pass0 rfl (qcons (qv 4) (qcons (qv 3) (qcons (qv 2) (qcons (qop rAdd qint (qF C_law_take (hr.mono (by (first | lia | omega))) pass0 rfl (qcons (qv 4) (qcons (qix (xIx K) (qlst (qcons qint (qcons qint (qcons qint qnil)))) (qF C_law_take (hr.mono (by (first | lia | omega))) pass0 rfl (qcons (qv 4) (qcons qint qnil))) (fun _ _ => rfl)) qnil)))) qnil))))))
      (bcons (sif (tnot (ttru K (qF C_law_all_right (hr.mono (by (first | lia | omega))) pass0 rfl (qcons (qv 3) (qcons (qv 5) qnil))) (fun _ => rfl))) (bone (sret qbl)) bnil)
      (bcons (sset (i := 6) sc_law.nd rfl (by first | exact Or.inl rfl | exact Or.inr rfl) (qop rSub (qF C_law_take (hr.mono (by (first | lia | omega))) pass0 rfl (qcons (qv 4) (qcons qint qnil))) qint))
      (bcons (sif (tcmp (rInn K) (qv 6) (qv 2) (by with_unfolding_all rfl)) (bone (sset (i := 6) sc_law.nd rfl (by first | exact Or.inl rfl | exact Or.inr rfl) (qop rAdd (qop rAdd (qB (fMax K) rfl T.b_max bt_max (qcons (qv 2) qnil)) qint) (qF C_law_take (hr.mono (by (first | lia | omega))) pass0 rfl (qcons (qv 4) (qcons qint qnil)))))) bnil)
      (bone (sret (qF C_law_all_right (hr.mono (by (first | lia | omega))) pass0 rfl (qcons (qF C_put (hr.mono (by (first | lia | omega))) pass0 rfl (qcons (qv 3) (qcons (qv 6) qnil))) (qcons (qop rAdd (qv 5) (qlst (qcons (qlst (qcons (qv 6) qnil)) qnil))) qnil))))))))))))), ?_⟩
    refine ⟨_, rfl, a, 0, ns, rfl, ha, hl, by decide, by decide, fun p H1 n1 s1 p1 => ?_⟩
    refine ⟨_, rfl, p, 24, rfl, p1, by decide, by decide, fun r2 H2 xs n2 s2 p2 e2 nd hx32 hx60 hxb => ?_⟩
    have hx33 : xs.length ≤ 32 := by (first | lia | omega)
    refine ⟨_, rfl, r2, xs, rfl, e2, nd, by (first | lia | omega), fun v H3 s3 g3 => ?_⟩
    have s03 : Same H H3 := (rm_of s1 n1).trans (s2.trans s3)
    obtain ⟨o1, o2, o3⟩ := Tr.build_ok nd
    have e3 := s3 _ _ e2
    have g3' : Rep H3 v (Tr.build xs).d := g3
    clear g3
    generalize ht : Tr.build xs = t at *
    have hht := Tr.ht_size t
    refine ⟨_, rfl, a, 1, ns, rfl, s03.seq ha, hl, by decide, by decide, fun p' H5 n5 s5 p5 => ?_⟩
    have T5 : TB Pt posT qT H5 := tb_mono (tb_mono (tb_pen (tb_mono T0 s1) p1 s2) s3) s5
    have e35 : H5 r2 = some (.lst (xs.map V.int)) := s5 _ _ e3
    have g5 : Rep H5 v t.d := g3'.mono s5
    have hrp : r2 ≠ p' := fun z => by have := e3; rw [z, n5] at this; cases this
    have hpP : p' ≠ Pt := by obtain ⟨m, n, e⟩ := p5; exact tb_ne T5 e
    generalize hB : rm p' (rm Pt H5) = B
    have Bp : B p' = none := by rw [← hB]; exact rm_self
    have BP : B Pt = none := by rw [← hB]; exact rm_fresh rm_self
    have sB5 : Same B H5 := by rw [← hB]; exact rm_same.trans rm_same
    have gB : Rep B v t.d := by
      obtain ⟨m, n, e⟩ := p5
      obtain ⟨ps, eps, _⟩ := T5
      rw [← hB]
      exact rep_pen ⟨m, n, by rw [rm_ne hpP]; exact e⟩ t (rep_tb eps g5)
    have eB : B r2 = some (.lst (xs.map V.int)) := by rw [← hB, rm_ne hrp, rm_ne (tb_ne T5 e35)]; exact e35
    refine ⟨_, rfl, _, rfl, _, rfl, _, rfl, (show 3 ≤ sizeLine by decide), fun l2 G2 m2 u2 f2 _ => ?_⟩
    refine ⟨_, rfl, p', 3, rfl, p5.mono u2, by decide, by decide, fun r3 G3 r30 r31 q3 u3 => ?_⟩
    obtain ⟨c, hc, hcm⟩ := atI_ints (ns := [4, 12, 60]) r30 r31
    have hc1 : 0 < c ∧ c ≤ 60 := by
      simp only [List.mem_cons, List.not_mem_nil, or_false] at hcm
      (first | lia | omega)
    refine ⟨l2, _, r3, .int c, rfl, rfl, .inl (SqL.of (rm_look u3 f2 (p5.ne m2))), hc, ?_⟩
    refine ⟨p', c, rfl, q3, hc1.1, by (first | lia | omega), fun r4 G4 r40 r41 q4 u4 => ?_⟩
    have T4 := tb_pen (tb_pen (tb_mono T5 u2) (p5.mono u2) u3) q3 u4
    have t4 : Same B G4 := (rm_of ((rm_of (sB5.trans u2) Bp).trans u3) Bp).trans u4
    refine ⟨p', v, t, r2, xs, 1 + r4, rfl, q4, gB.mono t4, hrp, t4 _ _ eB, o1, o3, by (first | lia | omega), hx60, by (first | lia | omega), fun r5 G5 bs pss m5 u5 q5 f5 g5' pm5 hr5 hl5 hb5 => ?_⟩
    have T5' := tb_pen T4 q4 u5
    have t5 : Same B G5 := (rm_of t4 Bp).trans u5
    have hfl5 : pss.flatten.length ≤ 32 := by rw [pm5.length_eq]; exact hx33
    have hnd5 : pss.flatten.Nodup := pm5.nodup_iff.mpr nd
    have hkf : ∀ y, y ∈ t.keys ↔ y ∈ pss.flatten := fun y => (o3 y).trans pm5.mem_iff.symm
    generalize hB6 : rm p' (rm Pt G5) = B6
    have B6p : B6 p' = none := by rw [← hB6]; exact rm_self
    have B6P : B6 Pt = none := by rw [← hB6]; exact rm_fresh rm_self
    have sB6 : Same B6 G5 := by rw [← hB6]; exact rm_same.trans rm_same
    have sBB6 : Same B B6 := by rw [← hB6]; exact rm_of (rm_of t5 BP) Bp
    have b6 : ∀ {c vs}, G5 c = some (.lst vs) → c ≠ p' → B6 c = G5 c := fun {c vs} e hc => by rw [← hB6, rm_ne hc, rm_ne (tb_ne T5' e)]
    have S6 : S36 B6 v r5 bs t pss := by
      refine ⟨gB.mono sBB6, ?_, ?_, o1, by (first | lia | omega), by (first | lia | omega), hnd5, by (first | lia | omega), by (first | lia | omega), hkf⟩
      · rw [b6 f5 (fun z => by obtain ⟨m, n, e⟩ := q4; rw [z, e] at m5; cases m5)]; exact f5
      · refine g5'.stay fun b hb => ?_
        obtain ⟨q', _, e⟩ := g5'.of hb
        exact b6 e (hb5 b hb).1
    have eB6 := sBB6 _ _ eB
    refine ⟨_, rfl, _, rfl, v, r5, bs, t, pss, rfl, S6.mono (rm_of sB6 B6P), T5', fun G6 u6 T6 => ?_⟩
    refine ⟨true, rfl, ?_⟩
    refine iteF ?_
    have t6 : Same B6 G6 := (rm_of sB6 B6P).trans u6
    have q6 : PenAt G6 p' := by
      obtain ⟨m, n, e⟩ := q5
      exact ⟨m, n, u6 _ _ (by rw [rm_ne hpP]; exact e)⟩
    refine ⟨_, rfl, p', 200, rfl, q6, by decide, by decide, fun d7 G7 d70 d71 q7 u7 => ?_⟩
    have t7 : Same B6 G7 := (rm_of t6 B6p).trans u7
    have T7 := tb_pen T6 q6 u7
    refine ⟨_, _, rfl, rfl, ?_⟩
    apply join (fun σ' H' => ∃ key : Int, σ' = [some (.ref a), some (.ref p), some (.ref r2), some v, some (.ref p'), some (.ref r5), some (.int key)] ∧ key ∉ xs ∧ Same B6 H' ∧ TB Pt posT qT H')
    case h2 =>
      intro hj
      refine ⟨_, rfl, _, rfl, r2, _, rfl, .inl (SqL.of (t7 _ _ eB6)), rfl, flat_ints _, ?_⟩
      rw [if_neg (show ¬ (false = true) by decide), inV_ints]
      refine ⟨_, rfl, ?_⟩
      rcases Decidable.em (d7 - 100 ∉ xs) with hm | hm
      · rw [decide_eq_false hm]
        refine iteF ?_
        exact hj _ _ ⟨d7 - 100, rfl, hm, t7, T7⟩
      · have hm : d7 - 100 ∈ xs := Decidable.not_not.mp hm
        rw [decide_eq_true hm]
        refine iteT ?_
        refine ⟨_, rfl, r2, xs, rfl, SqL.of (t7 _ _ eB6), List.length_pos_of_mem hm, fun M hM hmax => ?_⟩
        refine ⟨_, rfl, p', 9, rfl, q7, by decide, by decide, fun d8 G8 d80 d81 q8 u8 => ?_⟩
        refine hj _ _ ⟨M + 1 + d8, rfl, fun z => ?_, (rm_of t7 B6p).trans u8, tb_pen T7 q7 u8⟩
        have := hmax _ z
        (first | lia | omega)
    rintro σ G8 ⟨key, rfl, hnk, t8, T8⟩
    have S8 := S6.mono t8
    have hkt : key ∉ t.keys := fun z => hnk ((o3 key).mp z)
    refine ⟨_, rfl, _, rfl, v, key, t, rfl, S8.tr, by (first | lia | omega), by (first | lia | omega), hkt, fun v9 G9 u9 g9 => ?_⟩
    have T9 := tb_mono T8 u9
    refine ⟨_, rfl, _, rfl, (show 1 ≤ sizeLine by decide), fun l10 G10 m10 u10 f10 _ => ?_⟩
    refine ⟨(show 1 ≤ sizeLine by decide), fun l11 G11 m11 u11 f11 _ => ?_⟩
    have hbl := S6.pg.len
    have t11 := t8.trans (u9.trans (u10.trans u11))
    refine ⟨_, _, t11 _ _ S6.pa, f11, sizeBig' (by simp; (first | lia | omega)), fun l12 G12 m12 u12 f12 _ => ?_⟩
    have t12 := t11.trans u12
    have T12 := tb_mono T9 (u10.trans (u11.trans u12))
    have f10' : G12 l10 = some (.lst ([key].map V.int)) := (u11.trans u12) _ _ f10
    have f12' : G12 l12 = some (.lst ((bs ++ [l10]).map V.ref)) := by rw [List.map_append]; exact f12
    have g12 : Rep G12 v9 (t.ins key).d := g9.mono (u10.trans (u11.trans u12))
    have pg12 : Pgs G12 (bs ++ [l10]) (pss ++ [[key]]) := (S6.pg.mono t12).snoc f10'
    have rr : ∀ {c vs}, G12 c = some (.lst vs) → rm Pt G12 c = G12 c := fun {c vs} e => rm_ne (tb_ne T12 e)
    have hns := Tr.ins_size key t
    have hht2 := Tr.ht_size (t.ins key)
    refine ⟨v9, l12, bs ++ [l10], t.ins key, pss ++ [[key]], rfl, ⟨?_, ?_, ?_, ?_, by (first | lia | omega), by (first | lia | omega), ?_, ?_, ?_, ?_⟩, T12, fun G13 u13 T13 => ?_⟩
    · obtain ⟨ps, eps, _⟩ := T12
      exact rep_tb eps g12
    · rw [rr f12']; exact f12'
    · refine pg12.stay fun b hb => ?_
      obtain ⟨q', _, e⟩ := pg12.of hb
      exact rr e
    · exact Tr.ins_ord key t none none o1 hkt (fun _ h => nomatch h) (fun _ h => nomatch h)
    · rw [List.flatten_append, List.nodup_append]
      refine ⟨hnd5, by simp, fun x hx y hy z => ?_⟩
      have : y = key := by simpa using hy
      subst this; subst z
      exact hkt ((hkf _).mpr hx)
    · rw [List.flatten_append, List.length_append, show ([[key]] : List (List Int)).flatten.length = 1 from rfl]; (first | lia | omega)
    · rw [List.length_append]; simp; (first | lia | omega)
    · intro y
      rw [Tr.mem_ins, hkf y, List.flatten_append, List.mem_append]
      constructor
      · rintro (h | h)
        · exact .inr (by simp [h])
        · exact .inl h
      · rintro (h | h)
        · exact .inr h
        · exact .inl (by simpa using h)
    · exact q G13
end
end K36
namespace K36
open PySem L2 L3 PyProof.Rows
theorem all_mk {l : PySem.W.OpenLaw} {w : World} {K : PySem.W.Frag} {h : Heap} {mg : Str → Option Value} {fa : Addr} (X : K.In h) (G : h.Ns mainGlobals mg) (hfa : mg "law" = some (.ref fa))
    {f0 : Addr} {oc0 kV0 dc0 pm0 cd0 ct0 : Value} {od0 an0 : Option Addr} {sl0 : Array (Option Value)}
    {f1 : Addr} {oc1 kV1 dc1 pm1 cd1 ct1 : Value} {od1 an1 : Option Addr} {sl1 : Array (Option Value)}
    {f2 : Addr} {oc2 kV2 dc2 pm2 cd2 ct2 : Value} {od2 an2 : Option Addr} {sl2 : Array (Option Value)}
    {f3 : Addr} {oc3 kV3 dc3 pm3 cd3 ct3 : Value} {od3 an3 : Option Addr} {sl3 : Array (Option Value)}
    {f4 : Addr} {oc4 kV4 dc4 pm4 cd4 ct4 : Value} {od4 an4 : Option Addr} {sl4 : Array (Option Value)}
    {f5 : Addr} {oc5 kV5 dc5 pm5 cd5 ct5 : Value} {od5 an5 : Option Addr} {sl5 : Array (Option Value)}
    {f6 : Addr} {oc6 kV6 dc6 pm6 cd6 ct6 : Value} {od6 an6 : Option Addr} {sl6 : Array (Option Value)}
    {f7 : Addr} {oc7 kV7 dc7 pm7 cd7 ct7 : Value} {od7 an7 : Option Addr} {sl7 : Array (Option Value)}
    {f8 : Addr} {oc8 kV8 dc8 pm8 cd8 ct8 : Value} {od8 an8 : Option Addr} {sl8 : Array (Option Value)}
    {f9 : Addr} {oc9 kV9 dc9 pm9 cd9 ct9 : Value} {od9 an9 : Option Addr} {sl9 : Array (Option Value)}
    {f10 : Addr} {oc10 kV10 dc10 pm10 cd10 ct10 : Value} {od10 an10 : Option Addr} {sl10 : Array (Option Value)}
    {f11 : Addr} {oc11 kV11 dc11 pm11 cd11 ct11 : Value} {od11 an11 : Option Addr} {sl11 : Array (Option Value)}
    {f12 : Addr} {oc12 kV12 dc12 pm12 cd12 ct12 : Value} {od12 an12 : Option Addr} {sl12 : Array (Option Value)}
    {f13 : Addr} {oc13 kV13 dc13 pm13 cd13 ct13 : Value} {od13 an13 : Option Addr} {sl13 : Array (Option Value)}
    {f14 : Addr} {oc14 kV14 dc14 pm14 cd14 ct14 : Value} {od14 an14 : Option Addr} {sl14 : Array (Option Value)}
    {f15 : Addr} {oc15 kV15 dc15 pm15 cd15 ct15 : Value} {od15 an15 : Option Addr} {sl15 : Array (Option Value)}
    {f16 : Addr} {oc16 kV16 dc16 pm16 cd16 ct16 : Value} {od16 an16 : Option Addr} {sl16 : Array (Option Value)}
    {f17 : Addr} {oc17 kV17 dc17 pm17 cd17 ct17 : Value} {od17 an17 : Option Addr} {sl17 : Array (Option Value)}
    {f18 : Addr} {oc18 kV18 dc18 pm18 cd18 ct18 : Value} {od18 an18 : Option Addr} {sl18 : Array (Option Value)}
    {f19 : Addr} {oc19 kV19 dc19 pm19 cd19 ct19 : Value} {od19 an19 : Option Addr} {sl19 : Array (Option Value)}
    {f20 : Addr} {oc20 kV20 dc20 pm20 cd20 ct20 : Value} {od20 an20 : Option Addr} {sl20 : Array (Option Value)}
    {f21 : Addr} {oc21 kV21 dc21 pm21 cd21 ct21 : Value} {od21 an21 : Option Addr} {sl21 : Array (Option Value)}
    {f22 : Addr} {oc22 kV22 dc22 pm22 cd22 ct22 : Value} {od22 an22 : Option Addr} {sl22 : Array (Option Value)}
    {f23 : Addr} {oc23 kV23 dc23 pm23 cd23 ct23 : Value} {od23 an23 : Option Addr} {sl23 : Array (Option Value)}
    {f24 : Addr} {oc24 kV24 dc24 pm24 cd24 ct24 : Value} {od24 an24 : Option Addr} {sl24 : Array (Option Value)}
    {f25 : Addr} {oc25 kV25 dc25 pm25 cd25 ct25 : Value} {od25 an25 : Option Addr} {sl25 : Array (Option Value)}
    {f26 : Addr} {oc26 kV26 dc26 pm26 cd26 ct26 : Value} {od26 an26 : Option Addr} {sl26 : Array (Option Value)}
    {f27 : Addr} {oc27 kV27 dc27 pm27 cd27 ct27 : Value} {od27 an27 : Option Addr} {sl27 : Array (Option Value)}
    {f28 : Addr} {oc28 kV28 dc28 pm28 cd28 ct28 : Value} {od28 an28 : Option Addr} {sl28 : Array (Option Value)}
    {f29 : Addr} {oc29 kV29 dc29 pm29 cd29 ct29 : Value} {od29 an29 : Option Addr} {sl29 : Array (Option Value)}
    {f30 : Addr} {oc30 kV30 dc30 pm30 cd30 ct30 : Value} {od30 an30 : Option Addr} {sl30 : Array (Option Value)}
    {f31 : Addr} {oc31 kV31 dc31 pm31 cd31 ct31 : Value} {od31 an31 : Option Addr} {sl31 : Array (Option Value)}
    {f32 : Addr} {oc32 kV32 dc32 pm32 cd32 ct32 : Value} {od32 an32 : Option Addr} {sl32 : Array (Option Value)}
    {f33 : Addr} {oc33 kV33 dc33 pm33 cd33 ct33 : Value} {od33 an33 : Option Addr} {sl33 : Array (Option Value)}
    {f34 : Addr} {oc34 kV34 dc34 pm34 cd34 ct34 : Value} {od34 an34 : Option Addr} {sl34 : Array (Option Value)}
    {f35 : Addr} {oc35 kV35 dc35 pm35 cd35 ct35 : Value} {od35 an35 : Option Addr} {sl35 : Array (Option Value)}
    {f36 : Addr} {oc36 kV36 dc36 pm36 cd36 ct36 : Value} {od36 an36 : Option Addr} {sl36 : Array (Option Value)}
    (a0 : PySem.W.nsIn K mainGlobals "keys_of" = some (some (.ref f0))) (l0 : K.lookup f0 = some ⟨oc0, od0, .func (PySem.W.fnOf "keys_of" "keys_of" (defArgs s_keys_of) (defBody s_keys_of) (defScope s_keys_of) .none kV0 dc0 pm0 an0 cd0 ct0), sl0⟩) (c0 : PySem.W.codeIn K cd0 "keys_of" = true) (k0 : PySem.W.keepIn K (.ref f0) = true)
    (a1 : PySem.W.nsIn K mainGlobals "side_towards" = some (some (.ref f1))) (l1 : K.lookup f1 = some ⟨oc1, od1, .func (PySem.W.fnOf "side_towards" "side_towards" (defArgs s_side_towards) (defBody s_side_towards) (defScope s_side_towards) .none kV1 dc1 pm1 an1 cd1 ct1), sl1⟩) (c1 : PySem.W.codeIn K cd1 "side_towards" = true) (k1 : PySem.W.keepIn K (.ref f1) = true)
    (a2 : PySem.W.nsIn K mainGlobals "knot_at" = some (some (.ref f2))) (l2 : K.lookup f2 = some ⟨oc2, od2, .func (PySem.W.fnOf "knot_at" "knot_at" (defArgs s_knot_at) (defBody s_knot_at) (defScope s_knot_at) .none kV2 dc2 pm2 an2 cd2 ct2), sl2⟩) (c2 : PySem.W.codeIn K cd2 "knot_at" = true) (k2 : PySem.W.keepIn K (.ref f2) = true)
    (a3 : PySem.W.nsIn K mainGlobals "way_to" = some (some (.ref f3))) (l3 : K.lookup f3 = some ⟨oc3, od3, .func (PySem.W.fnOf "way_to" "way_to" (defArgs s_way_to) (defBody s_way_to) (defScope s_way_to) .none kV3 dc3 pm3 an3 cd3 ct3), sl3⟩) (c3 : PySem.W.codeIn K cd3 "way_to" = true) (k3 : PySem.W.keepIn K (.ref f3) = true)
    (a4 : PySem.W.nsIn K mainGlobals "with_key" = some (some (.ref f4))) (l4 : K.lookup f4 = some ⟨oc4, od4, .func (PySem.W.fnOf "with_key" "with_key" (defArgs s_with_key) (defBody s_with_key) (defScope s_with_key) .none kV4 dc4 pm4 an4 cd4 ct4), sl4⟩) (c4 : PySem.W.codeIn K cd4 "with_key" = true) (k4 : PySem.W.keepIn K (.ref f4) = true)
    (a5 : PySem.W.nsIn K mainGlobals "put" = some (some (.ref f5))) (l5 : K.lookup f5 = some ⟨oc5, od5, .func (PySem.W.fnOf "put" "put" (defArgs s_put) (defBody s_put) (defScope s_put) .none kV5 dc5 pm5 an5 cd5 ct5), sl5⟩) (c5 : PySem.W.codeIn K cd5 "put" = true) (k5 : PySem.W.keepIn K (.ref f5) = true)
    (a6 : PySem.W.nsIn K mainGlobals "tree_of" = some (some (.ref f6))) (l6 : K.lookup f6 = some ⟨oc6, od6, .func (PySem.W.fnOf "tree_of" "tree_of" (defArgs s_tree_of) (defBody s_tree_of) (defScope s_tree_of) .none kV6 dc6 pm6 an6 cd6 ct6), sl6⟩) (c6 : PySem.W.codeIn K cd6 "tree_of" = true) (k6 : PySem.W.keepIn K (.ref f6) = true)
    (a7 : PySem.W.nsIn K mainGlobals "spots_by_key" = some (some (.ref f7))) (l7 : K.lookup f7 = some ⟨oc7, od7, .func (PySem.W.fnOf "spots_by_key" "spots_by_key" (defArgs s_spots_by_key) (defBody s_spots_by_key) (defScope s_spots_by_key) .none kV7 dc7 pm7 an7 cd7 ct7), sl7⟩) (c7 : PySem.W.codeIn K cd7 "spots_by_key" = true) (k7 : PySem.W.keepIn K (.ref f7) = true)
    (a8 : PySem.W.nsIn K mainGlobals "spot_of" = some (some (.ref f8))) (l8 : K.lookup f8 = some ⟨oc8, od8, .func (PySem.W.fnOf "spot_of" "spot_of" (defArgs s_spot_of) (defBody s_spot_of) (defScope s_spot_of) .none kV8 dc8 pm8 an8 cd8 ct8), sl8⟩) (c8 : PySem.W.codeIn K cd8 "spot_of" = true) (k8 : PySem.W.keepIn K (.ref f8) = true)
    (a9 : PySem.W.nsIn K mainGlobals "slot_of" = some (some (.ref f9))) (l9 : K.lookup f9 = some ⟨oc9, od9, .func (PySem.W.fnOf "slot_of" "slot_of" (defArgs s_slot_of) (defBody s_slot_of) (defScope s_slot_of) .none kV9 dc9 pm9 an9 cd9 ct9), sl9⟩) (c9 : PySem.W.codeIn K cd9 "slot_of" = true) (k9 : PySem.W.keepIn K (.ref f9) = true)
    (a10 : PySem.W.nsIn K mainGlobals "slots_of" = some (some (.ref f10))) (l10 : K.lookup f10 = some ⟨oc10, od10, .func (PySem.W.fnOf "slots_of" "slots_of" (defArgs s_slots_of) (defBody s_slots_of) (defScope s_slots_of) .none kV10 dc10 pm10 an10 cd10 ct10), sl10⟩) (c10 : PySem.W.codeIn K cd10 "slots_of" = true) (k10 : PySem.W.keepIn K (.ref f10) = true)
    (a11 : PySem.W.nsIn K mainGlobals "stored" = some (some (.ref f11))) (l11 : K.lookup f11 = some ⟨oc11, od11, .func (PySem.W.fnOf "stored" "stored" (defArgs s_stored) (defBody s_stored) (defScope s_stored) .none kV11 dc11 pm11 an11 cd11 ct11), sl11⟩) (c11 : PySem.W.codeIn K cd11 "stored" = true) (k11 : PySem.W.keepIn K (.ref f11) = true)
    (a12 : PySem.W.nsIn K mainGlobals "spot_towards" = some (some (.ref f12))) (l12 : K.lookup f12 = some ⟨oc12, od12, .func (PySem.W.fnOf "spot_towards" "spot_towards" (defArgs s_spot_towards) (defBody s_spot_towards) (defScope s_spot_towards) .none kV12 dc12 pm12 an12 cd12 ct12), sl12⟩) (c12 : PySem.W.codeIn K cd12 "spot_towards" = true) (k12 : PySem.W.keepIn K (.ref f12) = true)
    (a13 : PySem.W.nsIn K mainGlobals "keys_along" = some (some (.ref f13))) (l13 : K.lookup f13 = some ⟨oc13, od13, .func (PySem.W.fnOf "keys_along" "keys_along" (defArgs s_keys_along) (defBody s_keys_along) (defScope s_keys_along) .none kV13 dc13 pm13 an13 cd13 ct13), sl13⟩) (c13 : PySem.W.codeIn K cd13 "keys_along" = true) (k13 : PySem.W.keepIn K (.ref f13) = true)
    (a14 : PySem.W.nsIn K mainGlobals "looked_up" = some (some (.ref f14))) (l14 : K.lookup f14 = some ⟨oc14, od14, .func (PySem.W.fnOf "looked_up" "looked_up" (defArgs s_looked_up) (defBody s_looked_up) (defScope s_looked_up) .none kV14 dc14 pm14 an14 cd14 ct14), sl14⟩) (c14 : PySem.W.codeIn K cd14 "looked_up" = true) (k14 : PySem.W.keepIn K (.ref f14) = true)
    (a15 : PySem.W.nsIn K mainGlobals "nearest" = some (some (.ref f15))) (l15 : K.lookup f15 = some ⟨oc15, od15, .func (PySem.W.fnOf "nearest" "nearest" (defArgs s_nearest) (defBody s_nearest) (defScope s_nearest) .none kV15 dc15 pm15 an15 cd15 ct15), sl15⟩) (c15 : PySem.W.codeIn K cd15 "nearest" = true) (k15 : PySem.W.keepIn K (.ref f15) = true)
    (a16 : PySem.W.nsIn K mainGlobals "slot_at" = some (some (.ref f16))) (l16 : K.lookup f16 = some ⟨oc16, od16, .func (PySem.W.fnOf "slot_at" "slot_at" (defArgs s_slot_at) (defBody s_slot_at) (defScope s_slot_at) .none kV16 dc16 pm16 an16 cd16 ct16), sl16⟩) (c16 : PySem.W.codeIn K cd16 "slot_at" = true) (k16 : PySem.W.keepIn K (.ref f16) = true)
    (a17 : PySem.W.nsIn K mainGlobals "keys_within" = some (some (.ref f17))) (l17 : K.lookup f17 = some ⟨oc17, od17, .func (PySem.W.fnOf "keys_within" "keys_within" (defArgs s_keys_within) (defBody s_keys_within) (defScope s_keys_within) .none kV17 dc17 pm17 an17 cd17 ct17), sl17⟩) (c17 : PySem.W.codeIn K cd17 "keys_within" = true) (k17 : PySem.W.keepIn K (.ref f17) = true)
    (a18 : PySem.W.nsIn K mainGlobals "between" = some (some (.ref f18))) (l18 : K.lookup f18 = some ⟨oc18, od18, .func (PySem.W.fnOf "between" "between" (defArgs s_between) (defBody s_between) (defScope s_between) .none kV18 dc18 pm18 an18 cd18 ct18), sl18⟩) (c18 : PySem.W.codeIn K cd18 "between" = true) (k18 : PySem.W.keepIn K (.ref f18) = true)
    (a19 : PySem.W.nsIn K mainGlobals "page_numbers" = some (some (.ref f19))) (l19 : K.lookup f19 = some ⟨oc19, od19, .func (PySem.W.fnOf "page_numbers" "page_numbers" (defArgs s_page_numbers) (defBody s_page_numbers) (defScope s_page_numbers) .none kV19 dc19 pm19 an19 cd19 ct19), sl19⟩) (c19 : PySem.W.codeIn K cd19 "page_numbers" = true) (k19 : PySem.W.keepIn K (.ref f19) = true)
    (a20 : PySem.W.nsIn K mainGlobals "numbers_along" = some (some (.ref f20))) (l20 : K.lookup f20 = some ⟨oc20, od20, .func (PySem.W.fnOf "numbers_along" "numbers_along" (defArgs s_numbers_along) (defBody s_numbers_along) (defScope s_numbers_along) .none kV20 dc20 pm20 an20 cd20 ct20), sl20⟩) (c20 : PySem.W.codeIn K cd20 "numbers_along" = true) (k20 : PySem.W.keepIn K (.ref f20) = true)
    (a21 : PySem.W.nsIn K mainGlobals "pages_met" = some (some (.ref f21))) (l21 : K.lookup f21 = some ⟨oc21, od21, .func (PySem.W.fnOf "pages_met" "pages_met" (defArgs s_pages_met) (defBody s_pages_met) (defScope s_pages_met) .none kV21 dc21 pm21 an21 cd21 ct21), sl21⟩) (c21 : PySem.W.codeIn K cd21 "pages_met" = true) (k21 : PySem.W.keepIn K (.ref f21) = true)
    (a22 : PySem.W.nsIn K mainGlobals "page_turns" = some (some (.ref f22))) (l22 : K.lookup f22 = some ⟨oc22, od22, .func (PySem.W.fnOf "page_turns" "page_turns" (defArgs s_page_turns) (defBody s_page_turns) (defScope s_page_turns) .none kV22 dc22 pm22 an22 cd22 ct22), sl22⟩) (c22 : PySem.W.codeIn K cd22 "page_turns" = true) (k22 : PySem.W.keepIn K (.ref f22) = true)
    (a23 : PySem.W.nsIn K mainGlobals "_law_pen" = some (some (.ref f23))) (l23 : K.lookup f23 = some ⟨oc23, od23, .func (PySem.W.fnOf "_law_pen" "_law_pen" (defArgs s_law_pen) (defBody s_law_pen) (defScope s_law_pen) .none kV23 dc23 pm23 an23 cd23 ct23), sl23⟩) (c23 : PySem.W.codeIn K cd23 "_law_pen" = true) (k23 : PySem.W.keepIn K (.ref f23) = true)
    (a24 : PySem.W.nsIn K mainGlobals "_law_take" = some (some (.ref f24))) (l24 : K.lookup f24 = some ⟨oc24, od24, .func (PySem.W.fnOf "_law_take" "_law_take" (defArgs s_law_take) (defBody s_law_take) (defScope s_law_take) .none kV24 dc24 pm24 an24 cd24 ct24), sl24⟩) (c24 : PySem.W.codeIn K cd24 "_law_take" = true) (k24 : PySem.W.keepIn K (.ref f24) = true)
    (a25 : PySem.W.nsIn K mainGlobals "_law_middles" = some (some (.ref f25))) (l25 : K.lookup f25 = some ⟨oc25, od25, .func (PySem.W.fnOf "_law_middles" "_law_middles" (defArgs s_law_middles) (defBody s_law_middles) (defScope s_law_middles) .none kV25 dc25 pm25 an25 cd25 ct25), sl25⟩) (c25 : PySem.W.codeIn K cd25 "_law_middles" = true) (k25 : PySem.W.keepIn K (.ref f25) = true)
    (a26 : PySem.W.nsIn K mainGlobals "_law_ranks" = some (some (.ref f26))) (l26 : K.lookup f26 = some ⟨oc26, od26, .func (PySem.W.fnOf "_law_ranks" "_law_ranks" (defArgs s_law_ranks) (defBody s_law_ranks) (defScope s_law_ranks) .none kV26 dc26 pm26 an26 cd26 ct26), sl26⟩) (c26 : PySem.W.codeIn K cd26 "_law_ranks" = true) (k26 : PySem.W.keepIn K (.ref f26) = true)
    (a27 : PySem.W.nsIn K mainGlobals "_law_keys" = some (some (.ref f27))) (l27 : K.lookup f27 = some ⟨oc27, od27, .func (PySem.W.fnOf "_law_keys" "_law_keys" (defArgs s_law_keys) (defBody s_law_keys) (defScope s_law_keys) .none kV27 dc27 pm27 an27 cd27 ct27), sl27⟩) (c27 : PySem.W.codeIn K cd27 "_law_keys" = true) (k27 : PySem.W.keepIn K (.ref f27) = true)
    (a28 : PySem.W.nsIn K mainGlobals "_law_ups" = some (some (.ref f28))) (l28 : K.lookup f28 = some ⟨oc28, od28, .func (PySem.W.fnOf "_law_ups" "_law_ups" (defArgs s_law_ups) (defBody s_law_ups) (defScope s_law_ups) .none kV28 dc28 pm28 an28 cd28 ct28), sl28⟩) (c28 : PySem.W.codeIn K cd28 "_law_ups" = true) (k28 : PySem.W.keepIn K (.ref f28) = true)
    (a29 : PySem.W.nsIn K mainGlobals "_law_shuffled" = some (some (.ref f29))) (l29 : K.lookup f29 = some ⟨oc29, od29, .func (PySem.W.fnOf "_law_shuffled" "_law_shuffled" (defArgs s_law_shuffled) (defBody s_law_shuffled) (defScope s_law_shuffled) .none kV29 dc29 pm29 an29 cd29 ct29), sl29⟩) (c29 : PySem.W.codeIn K cd29 "_law_shuffled" = true) (k29 : PySem.W.keepIn K (.ref f29) = true)
    (a30 : PySem.W.nsIn K mainGlobals "_law_layout" = some (some (.ref f30))) (l30 : K.lookup f30 = some ⟨oc30, od30, .func (PySem.W.fnOf "_law_layout" "_law_layout" (defArgs s_law_layout) (defBody s_law_layout) (defScope s_law_layout) .none kV30 dc30 pm30 an30 cd30 ct30), sl30⟩) (c30 : PySem.W.codeIn K cd30 "_law_layout" = true) (k30 : PySem.W.keepIn K (.ref f30) = true)
    (a31 : PySem.W.nsIn K mainGlobals "_law_reader" = some (some (.ref f31))) (l31 : K.lookup f31 = some ⟨oc31, od31, .func (PySem.W.fnOf "_law_reader" "_law_reader" (defArgs s_law_reader) (defBody s_law_reader) (defScope s_law_reader) .none kV31 dc31 pm31 an31 cd31 ct31), sl31⟩) (c31 : PySem.W.codeIn K cd31 "_law_reader" = true) (k31 : PySem.W.keepIn K (.ref f31) = true)
    (a32 : PySem.W.nsIn K mainGlobals "_law_once" = some (some (.ref f32))) (l32 : K.lookup f32 = some ⟨oc32, od32, .func (PySem.W.fnOf "_law_once" "_law_once" (defArgs s_law_once) (defBody s_law_once) (defScope s_law_once) .none kV32 dc32 pm32 an32 cd32 ct32), sl32⟩) (c32 : PySem.W.codeIn K cd32 "_law_once" = true) (k32 : PySem.W.keepIn K (.ref f32) = true)
    (a33 : PySem.W.nsIn K mainGlobals "_law_looked_up" = some (some (.ref f33))) (l33 : K.lookup f33 = some ⟨oc33, od33, .func (PySem.W.fnOf "_law_looked_up" "_law_looked_up" (defArgs s_law_looked_up) (defBody s_law_looked_up) (defScope s_law_looked_up) .none kV33 dc33 pm33 an33 cd33 ct33), sl33⟩) (c33 : PySem.W.codeIn K cd33 "_law_looked_up" = true) (k33 : PySem.W.keepIn K (.ref f33) = true)
    (a34 : PySem.W.nsIn K mainGlobals "_law_neighbours" = some (some (.ref f34))) (l34 : K.lookup f34 = some ⟨oc34, od34, .func (PySem.W.fnOf "_law_neighbours" "_law_neighbours" (defArgs s_law_neighbours) (defBody s_law_neighbours) (defScope s_law_neighbours) .none kV34 dc34 pm34 an34 cd34 ct34), sl34⟩) (c34 : PySem.W.codeIn K cd34 "_law_neighbours" = true) (k34 : PySem.W.keepIn K (.ref f34) = true)
    (a35 : PySem.W.nsIn K mainGlobals "_law_all_right" = some (some (.ref f35))) (l35 : K.lookup f35 = some ⟨oc35, od35, .func (PySem.W.fnOf "_law_all_right" "_law_all_right" (defArgs s_law_all_right) (defBody s_law_all_right) (defScope s_law_all_right) .none kV35 dc35 pm35 an35 cd35 ct35), sl35⟩) (c35 : PySem.W.codeIn K cd35 "_law_all_right" = true) (k35 : PySem.W.keepIn K (.ref f35) = true)
    (a36 : PySem.W.nsIn K mainGlobals "law" = some (some (.ref f36))) (l36 : K.lookup f36 = some ⟨oc36, od36, .func (PySem.W.fnOf "law" "law" (defArgs s_law) (defBody s_law) (defScope s_law) .none kV36 dc36 pm36 an36 cd36 ct36), sl36⟩) (c36 : PySem.W.codeIn K cd36 "law" = true) (k36 : PySem.W.keepIn K (.ref f36) = true)
    (z_abs : PySem.W.nsIn K mainGlobals "abs" = some none) (z_enumerate : PySem.W.nsIn K mainGlobals "enumerate" = some none) (z_len : PySem.W.nsIn K mainGlobals "len" = some none) (z_list : PySem.W.nsIn K mainGlobals "list" = some none) (z_max : PySem.W.nsIn K mainGlobals "max" = some none) (z_min : PySem.W.nsIn K mainGlobals "min" = some none) (z_range : PySem.W.nsIn K mainGlobals "range" = some none) (z_set : PySem.W.nsIn K mainGlobals "set" = some none) {tk_MOST_KEYS : Tok} (z_MOST_KEYS : PySem.W.nsIn K mainGlobals "MOST_KEYS" = some (some (.int 60 tk_MOST_KEYS)))
    {c Pt : Addr} (tc : PySem.W.tabIn K "_law_reader" = some (c, Pt)) (tn : K.lookup Pt = none) :
    ∃ (fd : FuncData) (c Pt : Addr), (∀ (s : Shared) (v : Value), BindsTo s fd ⟨[v], []⟩ [("_law_script", v)]) ∧ PySem.W.tabIn K "_law_reader" = some (c, Pt) ∧ K.lookup Pt = none ∧ ∀ base : Heap, K.In base → base.Ns mainGlobals mg → PySem.W.CodeHd base c Pt → base.BuiltinsAt mg Pt → FnOk l.prog w K mg base CX0 91 fa fd ["_law_script"] (spLaw K Pt) := by
  have e := hfa.symm.trans (PySem.W.mg_of X G a36)
  cases e
  have F_keys_of : Fd K mg "keys_of" s_keys_of f0 := fd_mk X G a0 l0 c0 k0
  have F_side_towards : Fd K mg "side_towards" s_side_towards f1 := fd_mk X G a1 l1 c1 k1
  have F_knot_at : Fd K mg "knot_at" s_knot_at f2 := fd_mk X G a2 l2 c2 k2
  have F_way_to : Fd K mg "way_to" s_way_to f3 := fd_mk X G a3 l3 c3 k3
  have F_with_key : Fd K mg "with_key" s_with_key f4 := fd_mk X G a4 l4 c4 k4
  have F_put : Fd K mg "put" s_put f5 := fd_mk X G a5 l5 c5 k5
  have F_tree_of : Fd K mg "tree_of" s_tree_of f6 := fd_mk X G a6 l6 c6 k6
  have F_spots_by_key : Fd K mg "spots_by_key" s_spots_by_key f7 := fd_mk X G a7 l7 c7 k7
  have F_spot_of : Fd K mg "spot_of" s_spot_of f8 := fd_mk X G a8 l8 c8 k8
  have F_slot_of : Fd K mg "slot_of" s_slot_of f9 := fd_mk X G a9 l9 c9 k9
  have F_slots_of : Fd K mg "slots_of" s_slots_of f10 := fd_mk X G a10 l10 c10 k10
  have F_stored : Fd K mg "stored" s_stored f11 := fd_mk X G a11 l11 c11 k11
  have F_spot_towards : Fd K mg "spot_towards" s_spot_towards f12 := fd_mk X G a12 l12 c12 k12
  have F_keys_along : Fd K mg "keys_along" s_keys_along f13 := fd_mk X G a13 l13 c13 k13
  have F_looked_up : Fd K mg "looked_up" s_looked_up f14 := fd_mk X G a14 l14 c14 k14
  have F_nearest : Fd K mg "nearest" s_nearest f15 := fd_mk X G a15 l15 c15 k15
  have F_slot_at : Fd K mg "slot_at" s_slot_at f16 := fd_mk X G a16 l16 c16 k16
  have F_keys_within : Fd K mg "keys_within" s_keys_within f17 := fd_mk X G a17 l17 c17 k17
  have F_between : Fd K mg "between" s_between f18 := fd_mk X G a18 l18 c18 k18
  have F_page_numbers : Fd K mg "page_numbers" s_page_numbers f19 := fd_mk X G a19 l19 c19 k19
  have F_numbers_along : Fd K mg "numbers_along" s_numbers_along f20 := fd_mk X G a20 l20 c20 k20
  have F_pages_met : Fd K mg "pages_met" s_pages_met f21 := fd_mk X G a21 l21 c21 k21
  have F_page_turns : Fd K mg "page_turns" s_page_turns f22 := fd_mk X G a22 l22 c22 k22
  have F_law_pen : Fd K mg "_law_pen" s_law_pen f23 := fd_mk X G a23 l23 c23 k23
  have F_law_take : Fd K mg "_law_take" s_law_take f24 := fd_mk X G a24 l24 c24 k24
  have F_law_middles : Fd K mg "_law_middles" s_law_middles f25 := fd_mk X G a25 l25 c25 k25
  have F_law_ranks : Fd K mg "_law_ranks" s_law_ranks f26 := fd_mk X G a26 l26 c26 k26
  have F_law_keys : Fd K mg "_law_keys" s_law_keys f27 := fd_mk X G a27 l27 c27 k27
  have F_law_ups : Fd K mg "_law_ups" s_law_ups f28 := fd_mk X G a28 l28 c28 k28
  have F_law_shuffled : Fd K mg "_law_shuffled" s_law_shuffled f29 := fd_mk X G a29 l29 c29 k29
  have F_law_layout : Fd K mg "_law_layout" s_law_layout f30 := fd_mk X G a30 l30 c30 k30
  have F_law_reader : Fd K mg "_law_reader" s_law_reader f31 := fd_mk X G a31 l31 c31 k31
  have F_law_once : Fd K mg "_law_once" s_law_once f32 := fd_mk X G a32 l32 c32 k32
  have F_law_looked_up : Fd K mg "_law_looked_up" s_law_looked_up f33 := fd_mk X G a33 l33 c33 k33
  have F_law_neighbours : Fd K mg "_law_neighbours" s_law_neighbours f34 := fd_mk X G a34 l34 c34 k34
  have F_law_all_right : Fd K mg "_law_all_right" s_law_all_right f35 := fd_mk X G a35 l35 c35 k35
  have T : Tx K mg := ⟨PySem.W.mg_none_of X G z_abs, PySem.W.mg_none_of X G z_enumerate, PySem.W.mg_none_of X G z_len, PySem.W.mg_none_of X G z_list, PySem.W.mg_none_of X G z_max, PySem.W.mg_none_of X G z_min, PySem.W.mg_none_of X G z_range, PySem.W.mg_none_of X G z_set, ⟨_, PySem.W.mg_of X G z_MOST_KEYS⟩⟩
  refine ⟨PySem.W.fnOf "law" "law" (defArgs s_law) (defBody s_law) (defScope s_law) .none kV36 dc36 pm36 an36 cd36 ct36, c, Pt, fun s v => .of_eq rfl, tc, tn, fun base _ _ CH BA => ?_⟩
  have C_take : Cal l.prog w K mg base CX0 1 "_law_take" spTake := ok_take F_law_take T
  have C_mid : Cal l.prog w K mg base CX0 70 "_law_middles" (spMid 70) := ok_mid F_law_middles T 70
  have C_ranks := ok_ranks F_law_ranks T C_take C_mid
  have C_ups : Cal l.prog w K mg base CX0 80 "_law_ups" (spUps 80) := ok_ups F_law_ups T 80
  have C_reader : Cal l.prog w K mg base CX0 1 "_law_reader" (spReader mg Pt) := ok_reader F_law_reader (fun _ _ _ _ e => tab_code a31 tc e) CH BA
  have C_along := ok_along (P := l.prog) (w := w) (base := base) F_keys_along T (ok_toward F_spot_towards T)
  have C_near := ok_nearest F_nearest T C_along
  have C_betw := ok_between (P := l.prog) (w := w) (base := base) F_between T (ok_within F_keys_within T (ok_slotAt F_slot_at T) 80)
  have C_side : Cal l.prog w K mg base CX0 1 "side_towards" spSide := ok_side F_side_towards T
  have C_at := ok_at F_knot_at T C_side
  have C_spotOf : Cal l.prog w K mg base CX0 1 "spot_of" spSpotOf := ok_spotOf F_spot_of T
  have C_stored := ok_stored F_stored T (ok_spots F_spots_by_key T) C_spotOf (ok_slotsOf F_slots_of T (ok_slotOf F_slot_of T C_at C_spotOf))
  have C_numA := ok_numA F_numbers_along T (ok_nums F_page_numbers T) (ok_way F_way_to T C_side)
  have C_kof : Cal l.prog w K mg base CX0 82 "keys_of" (spKof 82) := ok_kof F_keys_of T 82
  have C_wkey : Cal l.prog w K mg base CX0 80 "with_key" (spPut 80) := ok_wkey F_with_key T 80
  have C_lk := ok_lk F_law_looked_up T C_stored C_reader (ok_looked F_looked_up T C_along) (ok_turns F_page_turns T C_numA) (ok_once F_law_once T) (ok_met F_pages_met T C_numA)
  have C_nb := ok_nb F_law_neighbours T C_stored C_reader C_near C_betw
  have C_all := ok_all F_law_all_right T C_kof C_stored C_reader C_betw C_lk C_nb
  exact ok_law (fun_mk l36 c36 k36) T (ok_pen F_law_pen T) C_take (ok_keys F_law_keys T C_take C_ranks) (ok_tof F_tree_of T C_wkey) (ok_layout F_law_layout T C_take C_ups (ok_shuf F_law_shuffled T C_take)) C_all (ok_put F_put T C_at C_kof C_wkey)
theorem walk {l : PySem.W.OpenLaw} {q : Program} {loose : List Str} {XP : (Str → Option Value) → Heap → Prop} {YP : World → Heap → Prop} {d dr : DefRec} {K : Params → PySem.W.Frag} (hn : l.most = some 63) (hdf : d.params.defaults = [])
    (hY : ∀ (w : World) (h : Heap), YP w h → (K w.params).In h) (hrec : (recsOf q).find? (fun e => e.name == ("_law_reader" : Str)) = some dr)
    (F : ∀ (w : World) (mg : Str → Option Value) (fa : Addr) (h : Heap), (K w.params).In h → h.Ns mainGlobals mg → mg d.name = some (.ref fa) →
      ∃ (fd : FuncData) (c Pt : Addr), (∀ (s : Shared) (u : Value), BindsTo s fd ⟨[u], []⟩ [("_law_script", u)]) ∧ PySem.W.tabIn (K w.params) "_law_reader" = some (c, Pt) ∧ (K w.params).lookup Pt = none ∧ ∀ base : Heap, (K w.params).In base → base.Ns mainGlobals mg → PySem.W.CodeHd base c Pt → base.BuiltinsAt mg Pt → FnOk l.prog w (K w.params) mg base CX0 91 fa fd ["_law_script"] (spLaw (K w.params) Pt)) :
    PySem.W.WalkO q loose XP YP l.row.toRowW d [] (fun f vs => PySem.call f vs) :=
  L3.walk_ofT (n := 63) (k := 91) (x := "_law_script") (rd := "_law_reader") (sp := fun w Pt => spLaw (K w.params) Pt) hn (by decide) hdf ⟨rfl, by decide, by decide, rfl⟩ hY hrec F fun _ _ _ a ns hl hO hS => ⟨a, ns, rfl, hS, hl, hO.1, fun _ => rfl⟩
end K36
open PySem PySem.W PyProof.Rows
set_option maxRecDepth 100000 in
set_option maxHeartbeats 0 in
theorem PySem.Challenge.cw_leafpages_k36_whole_a_store_read_page_by_holds : PySem.Challenge.rw_leafpages_k36_whole_a_store_read_page_by.Holds := by
  w_on; o_law; k_head; (case hw => w_witness2)
  k_fill
  refine K36.walk (l := PySem.Challenge.rw_leafpages_k36_whole_a_store_read_page_by) rfl rfl (fun w h Y => PySem.W.km_in_of Y) rfl ?F
  case F =>
    intro w mg fa h KX G hmg
    refine' K36.all_mk KX G hmg ?a0 ?l0 ?c0 ?k0 ?a1 ?l1 ?c1 ?k1 ?a2 ?l2 ?c2 ?k2 ?a3 ?l3 ?c3 ?k3 ?a4 ?l4 ?c4 ?k4 ?a5 ?l5 ?c5 ?k5 ?a6 ?l6 ?c6 ?k6 ?a7 ?l7 ?c7 ?k7 ?a8 ?l8 ?c8 ?k8 ?a9 ?l9 ?c9 ?k9 ?a10 ?l10 ?c10 ?k10 ?a11 ?l11 ?c11 ?k11 ?a12 ?l12 ?c12 ?k12 ?a13 ?l13 ?c13 ?k13 ?a14 ?l14 ?c14 ?k14 ?a15 ?l15 ?c15 ?k15 ?a16 ?l16 ?c16 ?k16 ?a17 ?l17 ?c17 ?k17 ?a18 ?l18 ?c18 ?k18 ?a19 ?l19 ?c19 ?k19 ?a20 ?l20 ?c20 ?k20 ?a21 ?l21 ?c21 ?k21 ?a22 ?l22 ?c22 ?k22 ?a23 ?l23 ?c23 ?k23 ?a24 ?l24 ?c24 ?k24 ?a25 ?l25 ?c25 ?k25 ?a26 ?l26 ?c26 ?k26 ?a27 ?l27 ?c27 ?k27 ?a28 ?l28 ?c28 ?k28 ?a29 ?l29 ?c29 ?k29 ?a30 ?l30 ?c30 ?k30 ?a31 ?l31 ?c31 ?k31 ?a32 ?l32 ?c32 ?k32 ?a33 ?l33 ?c33 ?k33 ?a34 ?l34 ?c34 ?k34 ?a35 ?l35 ?c35 ?k35 ?a36 ?l36 ?c36 ?k36 ?z_abs ?z_enumerate ?z_len ?z_list ?z_max ?z_min ?z_range ?z_set ?z_MOST_KEYS (L3.tab_in ?e1 ?e2 ?e3 ?e4 ?e5) ?e6
    (case a0 => k_is)
    (case l0 => k_is)
    (case c0 => k_is)
    (case k0 => k_is)
    (case a1 => k_is)
    (case l1 => k_is)
    (case c1 => k_is)
    (case k1 => k_is)
    (case a2 => k_is)
    (case l2 => k_is)
    (case c2 => k_is)
    (case k2 => k_is)
    (case a3 => k_is)
    (case l3 => k_is)
    (case c3 => k_is)
    (case k3 => k_is)
    (case a4 => k_is)
    (case l4 => k_is)
    (case c4 => k_is)
    (case k4 => k_is)
    (case a5 => k_is)
    (case l5 => k_is)
    (case c5 => k_is)
    (case k5 => k_is)
    (case a6 => k_is)
    (case l6 => k_is)
    (case c6 => k_is)
    (case k6 => k_is)
    (case a7 => k_is)
    (case l7 => k_is)
    (case c7 => k_is)
    (case k7 => k_is)
    (case a8 => k_is)
    (case l8 => k_is)
    (case c8 => k_is)
    (case k8 => k_is)
    (case a9 => k_is)
    (case l9 => k_is)
    (case c9 => k_is)
    (case k9 => k_is)
    (case a10 => k_is)
    (case l10 => k_is)
    (case c10 => k_is)
    (case k10 => k_is)
    (case a11 => k_is)
    (case l11 => k_is)
    (case c11 => k_is)
    (case k11 => k_is)
    (case a12 => k_is)
    (case l12 => k_is)
    (case c12 => k_is)
    (case k12 => k_is)
    (case a13 => k_is)
    (case l13 => k_is)
    (case c13 => k_is)
    (case k13 => k_is)
    (case a14 => k_is)
    (case l14 => k_is)
    (case c14 => k_is)
    (case k14 => k_is)
    (case a15 => k_is)
    (case l15 => k_is)
    (case c15 => k_is)
    (case k15 => k_is)
    (case a16 => k_is)
    (case l16 => k_is)
    (case c16 => k_is)
    (case k16 => k_is)
    (case a17 => k_is)
    (case l17 => k_is)
    (case c17 => k_is)
    (case k17 => k_is)
    (case a18 => k_is)
    (case l18 => k_is)
    (case c18 => k_is)
    (case k18 => k_is)
    (case a19 => k_is)
    (case l19 => k_is)
    (case c19 => k_is)
    (case k19 => k_is)
    (case a20 => k_is)
    (case l20 => k_is)
    (case c20 => k_is)
    (case k20 => k_is)
    (case a21 => k_is)
    (case l21 => k_is)
    (case c21 => k_is)
    (case k21 => k_is)
    (case a22 => k_is)
    (case l22 => k_is)
    (case c22 => k_is)
    (case k22 => k_is)
    (case a23 => k_is)
    (case l23 => k_is)
    (case c23 => k_is)
    (case k23 => k_is)
    (case a24 => k_is)
    (case l24 => k_is)
    (case c24 => k_is)
    (case k24 => k_is)
    (case a25 => k_is)
    (case l25 => k_is)
    (case c25 => k_is)
    (case k25 => k_is)
    (case a26 => k_is)
    (case l26 => k_is)
    (case c26 => k_is)
    (case k26 => k_is)
    (case a27 => k_is)
    (case l27 => k_is)
    (case c27 => k_is)
    (case k27 => k_is)
    (case a28 => k_is)
    (case l28 => k_is)
    (case c28 => k_is)
    (case k28 => k_is)
    (case a29 => k_is)
    (case l29 => k_is)
    (case c29 => k_is)
    (case k29 => k_is)
    (case a30 => k_is)
    (case l30 => k_is)
    (case c30 => k_is)
    (case k30 => k_is)
    (case a31 => k_is)
    (case l31 => k_is)
    (case c31 => k_is)
    (case k31 => k_is)
    (case a32 => k_is)
    (case l32 => k_is)
    (case c32 => k_is)
    (case k32 => k_is)
    (case a33 => k_is)
    (case l33 => k_is)
    (case c33 => k_is)
    (case k33 => k_is)
    (case a34 => k_is)
    (case l34 => k_is)
    (case c34 => k_is)
    (case k34 => k_is)
    (case a35 => k_is)
    (case l35 => k_is)
    (case c35 => k_is)
    (case k35 => k_is)
    (case a36 => k_is)
    (case l36 => k_is)
    (case c36 => k_is)
    (case k36 => k_is)
    (case z_abs => k_is)
    (case z_enumerate => k_is)
    (case z_len => k_is)
    (case z_list => k_is)
    (case z_max => k_is)
    (case z_min => k_is)
    (case z_range => k_is)
    (case z_set => k_is)
    (case z_MOST_KEYS => k_is)
    (case e1 => k_is)
    (case e2 => k_is)
    (case e3 => exact rfl)
    (case e4 => k_is)
    (case e5 => exact rfl)
    (case e6 => kernel_rfl)
