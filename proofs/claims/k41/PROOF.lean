import PyProof.Rows.All
import Wide.All
import OpenK.AllK
import Wide.FinOn
import Lean
import PyProof.EqAt
import PyProof.EqKinds
import PyProof.TupleCall
import PyProof.NeKinds
import PyProof.Rows.SumAny
import PyProof.Rows.SortWalk
import PyProof.WalksEnum
import PyProof.AttrMissHeap
import KE.KDictOf
import PyProof.DictWalks
import KE.KRevIter
import PyProof.Rows.SeqMore2
import Wide.Seal
import KE.KDictList
import PyProof.ZipIter
import PyProof.TupleIter
import PyProof.ListMulRoad
import PyProof.TupleOps
import PyProof.FactsAll.tuple
import PyProof.Rows.CallKwBuiltin
import PyProof.WalkInts
import PyProof.DictValues
import KE.KSortTup
import KE.KEqDict
import OpenK.KCell
import KE.KNest
import KE.KDictSum
import PyProof.Rows.SetFrom
import PyProof.SetRoads
import PySem.Challenge.RW_leafpages_k41_whole_as_made_anew
set_option bootstrap.genMatcherCode false
set_option Elab.async false
set_option linter.all false
set_option maxRecDepth 100000
set_option maxHeartbeats 4000000
namespace L3
open PySem
theorem lcons {P : List Value → Prop} {n : Nat} (h : ∀ (a : Value) (us : List Value), us.length = n → P (a :: us)) : ∀ us : List Value, us.length = n + 1 → P us := fun us hl => by
  cases us with
  | nil => cases hl
  | cons a us => exact h a us (Nat.succ.inj hl)
theorem lnone {P : List Value → Prop} (h : P []) : ∀ us : List Value, us.length = 0 → P us := fun us hl => by
  cases us with
  | nil => exact h
  | cons a us => cases hl
theorem bind1 {fd : FuncData} {s : Str} (h : ∀ a : Value, bindArgs fd ⟨[a], []⟩ = pure ([s].zip [a])) : ∀ us : List Value, us.length = 1 → bindArgs fd ⟨us, []⟩ = pure ([s].zip us) :=
  lcons (P := fun us => bindArgs fd ⟨us, []⟩ = pure ([s].zip (us))) fun a => lnone (P := fun us => bindArgs fd ⟨a :: us, []⟩ = pure ([s].zip (a :: us))) (h a)
theorem bind2 {fd : FuncData} {s t : Str} (h : ∀ a b : Value, bindArgs fd ⟨[a, b], []⟩ = pure ([s, t].zip [a, b])) : ∀ us : List Value, us.length = 2 → bindArgs fd ⟨us, []⟩ = pure ([s, t].zip us) :=
  lcons (P := fun us => bindArgs fd ⟨us, []⟩ = pure ([s, t].zip (us))) fun a => lcons (P := fun us => bindArgs fd ⟨a :: us, []⟩ = pure ([s, t].zip (a :: us))) fun b => lnone (P := fun us => bindArgs fd ⟨a :: b :: us, []⟩ = pure ([s, t].zip (a :: b :: us))) (h a b)
theorem bind3 {fd : FuncData} {s t u : Str} (h : ∀ a b c : Value, bindArgs fd ⟨[a, b, c], []⟩ = pure ([s, t, u].zip [a, b, c])) : ∀ us : List Value, us.length = 3 → bindArgs fd ⟨us, []⟩ = pure ([s, t, u].zip us) :=
  lcons (P := fun us => bindArgs fd ⟨us, []⟩ = pure ([s, t, u].zip (us))) fun a => lcons (P := fun us => bindArgs fd ⟨a :: us, []⟩ = pure ([s, t, u].zip (a :: us))) fun b => lcons (P := fun us => bindArgs fd ⟨a :: b :: us, []⟩ = pure ([s, t, u].zip (a :: b :: us))) fun c => lnone (P := fun us => bindArgs fd ⟨a :: b :: c :: us, []⟩ = pure ([s, t, u].zip (a :: b :: c :: us))) (h a b c)
theorem bind4 {fd : FuncData} {s t u v : Str} (h : ∀ a b c d : Value, bindArgs fd ⟨[a, b, c, d], []⟩ = pure ([s, t, u, v].zip [a, b, c, d])) : ∀ us : List Value, us.length = 4 → bindArgs fd ⟨us, []⟩ = pure ([s, t, u, v].zip us) :=
  lcons (P := fun us => bindArgs fd ⟨us, []⟩ = pure ([s, t, u, v].zip (us))) fun a => lcons (P := fun us => bindArgs fd ⟨a :: us, []⟩ = pure ([s, t, u, v].zip (a :: us))) fun b => lcons (P := fun us => bindArgs fd ⟨a :: b :: us, []⟩ = pure ([s, t, u, v].zip (a :: b :: us))) fun c => lcons (P := fun us => bindArgs fd ⟨a :: b :: c :: us, []⟩ = pure ([s, t, u, v].zip (a :: b :: c :: us))) fun d => lnone (P := fun us => bindArgs fd ⟨a :: b :: c :: d :: us, []⟩ = pure ([s, t, u, v].zip (a :: b :: c :: d :: us))) (h a b c d)
theorem bind5 {fd : FuncData} {s t u v w : Str} (h : ∀ a b c d e : Value, bindArgs fd ⟨[a, b, c, d, e], []⟩ = pure ([s, t, u, v, w].zip [a, b, c, d, e])) : ∀ us : List Value, us.length = 5 → bindArgs fd ⟨us, []⟩ = pure ([s, t, u, v, w].zip us) :=
  lcons (P := fun us => bindArgs fd ⟨us, []⟩ = pure ([s, t, u, v, w].zip (us))) fun a => lcons (P := fun us => bindArgs fd ⟨a :: us, []⟩ = pure ([s, t, u, v, w].zip (a :: us))) fun b => lcons (P := fun us => bindArgs fd ⟨a :: b :: us, []⟩ = pure ([s, t, u, v, w].zip (a :: b :: us))) fun c => lcons (P := fun us => bindArgs fd ⟨a :: b :: c :: us, []⟩ = pure ([s, t, u, v, w].zip (a :: b :: c :: us))) fun d => lcons (P := fun us => bindArgs fd ⟨a :: b :: c :: d :: us, []⟩ = pure ([s, t, u, v, w].zip (a :: b :: c :: d :: us))) fun e => lnone (P := fun us => bindArgs fd ⟨a :: b :: c :: d :: e :: us, []⟩ = pure ([s, t, u, v, w].zip (a :: b :: c :: d :: e :: us))) (h a b c d e)
end L3
namespace L2
open PySem PySem.Spec PyProof.Rows
noncomputable abbrev Key := Sum Int Str
noncomputable def keyIs : Key → Value → Bool
  | .inl k, v => Value.isInt k v
  | .inr x, v => Value.isStrOf x v
noncomputable def keyH (w : World) : Key → Int
  | .inl k => hashInt k
  | .inr x => hashStr w x
theorem keyIs_shape : ∀ {k : Key} {v : Value}, keyIs k v = true → (∃ i t, k = Sum.inl i ∧ v = Value.int i t) ∨ (∃ x t, k = Sum.inr x ∧ v = Value.str x t)
  | .inl i, v, h => by
    obtain ⟨t, e⟩ := Value.isInt_shape (k := i) (v := v) h
    exact .inl ⟨i, t, rfl, e⟩
  | .inr x, v, h => by
    obtain ⟨t, e⟩ := Value.isStrOf_shape (x := x) (v := v) h
    exact .inr ⟨x, t, rfl, e⟩
theorem keyIs_int (i : Int) (t : Tok) : keyIs (.inl i) (.int i t) = true := by simp [keyIs, Value.isInt]
theorem keyIs_str (x : Str) (t : Tok) : keyIs (.inr x) (.str x t) = true := by simp [keyIs, Value.isStrOf]
theorem key_ll (a b : Int) : decide ((Sum.inl a : Key) = Sum.inl b) = (a == b) := by
  by_cases e : a = b
  · subst e; simp
  · have h : ¬ (Sum.inl a : Key) = Sum.inl b := fun q => e (Sum.inl.inj q)
    rw [decide_eq_false h]
    exact (beq_eq_false_iff_ne.mpr e).symm
theorem key_rr (a b : Str) : decide ((Sum.inr a : Key) = Sum.inr b) = decide (a = b) := by
  by_cases e : a = b
  · subst e; simp
  · have h : ¬ (Sum.inr a : Key) = Sum.inr b := fun q => e (Sum.inr.inj q)
    rw [decide_eq_false h, decide_eq_false e]
theorem key_lr (a : Int) (b : Str) : decide ((Sum.inl a : Key) = Sum.inr b) = false := decide_eq_false (fun q => nomatch q)
theorem key_rl (a : Str) (b : Int) : decide ((Sum.inr a : Key) = Sum.inl b) = false := decide_eq_false (fun q => nomatch q)
noncomputable def mixKind (prog : Program) (w : World) : PySem.KeyKind prog w Key where
  is := keyIs
  hash := keyH w
  inj := fun v a b ha hb => by
    rcases keyIs_shape ha with ⟨i, t, rfl, rfl⟩ | ⟨x, t, rfl, rfl⟩
    · rcases keyIs_shape hb with ⟨j, u, rfl, e⟩ | ⟨y, u, rfl, e⟩
      · injection e with e1 _; rw [e1]
      · exact nomatch e
    · rcases keyIs_shape hb with ⟨j, u, rfl, e⟩ | ⟨y, u, rfl, e⟩
      · exact nomatch e
      · injection e with e1 _; rw [e1]
  byValue := fun k v h => by
    rcases keyIs_shape h with ⟨i, t, rfl, rfl⟩ | ⟨x, t, rfl, rfl⟩ <;> rfl
  pyHash := fun hv h => by
    rcases keyIs_shape hv with ⟨i, t, rfl, rfl⟩ | ⟨x, t, rfl, rfl⟩
    · exact wpAny_pyHash_int h
    · exact wpAny_pyHash_str h
  eqBool := fun hu hv h => by
    rcases keyIs_shape hu with ⟨i, t, rfl, rfl⟩ | ⟨x, t, rfl, rfl⟩
    · rcases keyIs_shape hv with ⟨j, u, rfl, rfl⟩ | ⟨y, u, rfl, rfl⟩
      · rw [key_ll] at h; exact wpAny_eqBool_int h
      · rw [key_lr] at h; exact SeqAt.EqAt.int_str i t y u _ _ _ _ h
    · rcases keyIs_shape hv with ⟨j, u, rfl, rfl⟩ | ⟨y, u, rfl, rfl⟩
      · rw [key_rl] at h; exact SeqAt.EqAt.str_int x t j u _ _ _ _ h
      · rw [key_rr] at h; exact wpAny_eqBool_str h
  «strs» := fun k x t v h => by
    rcases keyIs_shape h with ⟨i, u, rfl, e⟩ | ⟨y, u, rfl, e⟩
    · exact nomatch e
    · injection e with e1 _
      subst e1
      cases v <;> rfl
theorem mixKind_int (prog : Program) (w : World) (i : Int) (t : Tok) : (mixKind prog w).is (.inl i) (.int i t) = true := keyIs_int i t
theorem mixKind_str (prog : Program) (w : World) (x : Str) (t : Tok) : (mixKind prog w).is (.inr x) (.str x t) = true := keyIs_str x t
end L2
namespace L2
open PySem PySem.Spec PyProof.Rows
inductive V where
  | non | bl (b : Bool) | int (i : Int) | str (x : Str) | byt (b : Array UInt8) | flt (b : UInt64) | ref (a : Addr) | ty (n : String)
  deriving DecidableEq
noncomputable def RelV : V → Value → Prop
  | .non, u => u = Value.none
  | .bl b, u => u = Value.bool b
  | .int i, u => ∃ t, u = Value.int i t
  | .str x, u => ∃ t, u = Value.str x t
  | .byt b, u => ∃ t, u = Value.bytes b t
  | .flt b, u => ∃ t, u = Value.float b t
  | .ref a, u => u = Value.ref a
  | .ty n, u => u = Value.type n
noncomputable abbrev Vals : List V → List Value → Prop := Paired RelV
theorem Vals.length {xs : List V} {us : List Value} (r : Vals xs us) : xs.length = us.length := Paired.length r
theorem Vals.get : ∀ {xs : List V} {us : List Value} {i : Nat} {x : V}, Vals xs us → xs[i]? = some x → ∃ u, us[i]? = some u ∧ RelV x u
  | _, _, _, _, .nil, e => by simp at e
  | _, _, 0, _, .cons r _, e => by simp at e; subst e; exact ⟨_, rfl, r⟩
  | _, _, i + 1, x, .cons _ t, e => by
    obtain ⟨u, h1, h2⟩ := Vals.get (i := i) (x := x) t (by simpa using e)
    exact ⟨u, by simpa using h1, h2⟩
theorem Vals.set {x : V} {u : Value} (r : RelV x u) : ∀ {xs : List V} {us : List Value} (i : Nat), Vals xs us → Vals (xs.set i x) (us.set i u)
  | _, _, _, .nil => .nil
  | _, _, 0, .cons _ t => .cons r t
  | _, _, i + 1, .cons q t => .cons q (Vals.set r i t)
theorem Vals.append : ∀ {xs ys : List V} {us ws : List Value}, Vals xs us → Vals ys ws → Vals (xs ++ ys) (us ++ ws)
  | _, _, _, _, .nil, s => s
  | _, _, _, _, .cons r t, s => .cons r (Vals.append t s)
theorem Vals.take : ∀ {xs : List V} {us : List Value} (n : Nat), Vals xs us → Vals (xs.take n) (us.take n)
  | _, _, 0, _ => .nil
  | _, _, _ + 1, .nil => .nil
  | _, _, n + 1, .cons r t => .cons r (Vals.take n t)
theorem Vals.drop : ∀ {xs : List V} {us : List Value} (n : Nat), Vals xs us → Vals (xs.drop n) (us.drop n)
  | _, _, 0, r => r
  | _, _, _ + 1, .nil => .nil
  | _, _, n + 1, .cons _ t => Vals.drop n t
noncomputable def RelO : Option V → Option Value → Prop
  | some v, some u => RelV v u
  | none, none => True
  | _, _ => False
noncomputable def KV {κ : Type} : List (κ × V) → List (κ × Value) → Prop := Paired fun (p : κ × V) (q : κ × Value) => p.1 = q.1 ∧ RelV p.2 q.2
noncomputable def kV : Key → V
  | .inl i => .int i
  | .inr x => .str x
inductive HO where
  /-- a list -/
  | lst (xs : List V)
  /-- a tuple (never changes) -/
  | tup (xs : List V)
  /-- a dict whose keys are ints and texts; one whose keys are tuples of ints and texts (the empty one is both) -/
  | dK (kvs : List (Key × V)) | dT (kvs : List (List Key × V))
  /-- a set of ints: its members, its size -/
  | set (S : Int → Bool) (n : Nat)
  /-- an instance of the class at C, its dict at dx, its attributes -/
  | ins (C dx : Addr) (fs : List (Str × V))
  /-- the dict of the instance at x -/
  | own (x : Addr)
  /-- the dict of an exception -/
  | xd (fs : List (Str × V))
  /-- a bound method, f of x -/
  | met (f x : Addr)
  /-- a range object lo, lo + 1, .. below hi -/
  | rng (lo hi : Int)
  /-- a thing that is known to the object (the script; a dict while a loop walks it): read, never written while it is so -/
  | frz (o : Obj) (u : HO)
  /-- a code object's table -/
  | tbl (ps : Array Value)
  /-- any other thing, by what is true of its one object (a def of one's own: SetO a S n := HO.ext fun h => ..) -/
  | ext (φ : Heap → Prop)
noncomputable abbrev Hp := Addr → Option HO
noncomputable def upd (H : Hp) (a : Addr) (o : HO) : Hp := fun b => if b = a then some o else H b
theorem upd_same {H : Hp} {a : Addr} {o : HO} : upd H a o a = some o := by unfold upd; rw [if_pos rfl]
theorem upd_ne {H : Hp} {a b : Addr} {o : HO} (h : b ≠ a) : upd H a o b = H b := by unfold upd; rw [if_neg h]
theorem ne_of {H : Hp} {a b : Addr} {o u : HO} (h : H a = some o) (h' : H b = some u) (d : o ≠ u) : a ≠ b := by
  intro e; subst e; rw [h] at h'; exact d (Option.some.inj h')
theorem ne_of_none {H : Hp} {a b : Addr} {o : HO} (h : H a = some o) (h' : H b = none) : a ≠ b := by
  intro e; subst e; rw [h] at h'; cases h'
section
variable (P : Program) (w : World)
noncomputable def ObjOk (H : Hp) (h : Heap) (a : Addr) : HO → Prop
  | .lst xs => xs.length ≤ sizeLine ∧ ∃ (its : List Value) (n : Nat), Vals xs its ∧ h.get? a = some { cls := .type "list", data := .seq its.toArray n }
  | .tup xs => xs.length ≤ sizeLine ∧ ∃ its : List Value, Vals xs its ∧ IsTup h a its.toArray
  | .dK kvs => kvs.length ≤ sizeLine ∧ (a == sysModules) = false ∧ ∃ vs, KV kvs vs ∧ h.DictOf (mixKind P w) a vs
  | .dT kvs => kvs.length ≤ sizeLine ∧ (a == sysModules) = false ∧ ∃ xs : List (List Key × Addr × Value),
      Paired (fun (p : List Key × V) (q : List Key × Addr × Value) => p.1 = q.1 ∧ H q.2.1 = some (.tup (p.1.map kV)) ∧ RelV p.2 q.2.2) kvs xs ∧
      ∃ o es ep, h.get? a = some o ∧ o.ExactDict ∧ o.data = .dict es ep ∧ es.toList = xs.map (entryOfKey (tupleKind (mixKind P w))) ∧ (xs.map (·.1)).Nodup
  | .set S n => h.SetOf (intKind P w) a S n
  | .ins C dx fs => H dx = some (.own a) ∧ fs.length ≤ 1000 ∧ dx ≠ a ∧ h.get? a = some (PySem.W.instObj C dx) ∧
      ∃ mA, h.Ns1 dx mA ∧ (∀ f, RelO (fs.lookup f) (mA f)) ∧ PySem.Within mA (fs.map (·.1))
  | .own _ => ∃ o, h.get? a = some o
  | .xd fs => ∃ mA, h.Ns1 a mA ∧ ∀ f, RelO (fs.lookup f) (mA f)
  | .rng lo hi => ∃ t u v, h.get? a = some { cls := .type "range", data := .fields #[.int lo t, .int hi u, .int 1 v] }
  | .frz o u => h.get? a = some o ∧ ObjOk H h a u
  | .tbl ps => h.get? a = some { cls := .none, data := .fields ps }
  | .met f x => h.get? a = some (PySem.W.methodObj (.ref f) (.ref x))
  | .ext φ => φ h ∧ (∃ o, h.get? a = some o) ∧ ∀ h1 h2 : Heap, φ h1 → (∀ o, h1.get? a = some o → h2.get? a = some o) → φ h2
noncomputable def HOk (H : Hp) (h : Heap) : Prop := ∀ a o, H a = some o → ObjOk P w H h a o
end
section
variable {P : Program} {w : World} {H H' : Hp} {h h' : Heap} {a : Addr} {o : HO}
theorem ObjOk.lt (x : ObjOk P w H h a o) : a < h.objs.size := by
  cases o with
  | lst xs => obtain ⟨_, _, _, _, e⟩ := x; exact Heap.lt_size e
  | tup xs => obtain ⟨_, _, _, p⟩ := x; exact p.lt
  | dK kvs => obtain ⟨_, _, _, _, o, _, _, e, _⟩ := x; exact Heap.lt_size e
  | dT kvs => obtain ⟨_, _, _, _, o, _, _, e, _⟩ := x; exact Heap.lt_size e
  | set S n => obtain ⟨o, _, _, _, e, _⟩ := x; exact Heap.lt_size e
  | ins C dx fs => obtain ⟨_, _, _, e, _⟩ := x; exact Heap.lt_size e
  | own y => obtain ⟨_, e⟩ := x; exact Heap.lt_size e
  | xd fs => obtain ⟨_, ⟨_, _, _, e, _⟩, _⟩ := x; exact Heap.lt_size e
  | rng lo hi => obtain ⟨_, _, _, e⟩ := x; exact Heap.lt_size e
  | frz ob u => obtain ⟨e, _⟩ := x; exact Heap.lt_size e
  | tbl ps => exact Heap.lt_size (show h.get? a = some _ from x)
  | met f y => exact Heap.lt_size (show h.get? a = some _ from x)
  | ext φ => obtain ⟨_, ⟨_, e⟩, _⟩ := x; exact Heap.lt_size e
theorem Paired.mapP {α β : Type} {F G : α → β → Prop} : ∀ {l₁ : List α} {l₂ : List β}, Paired F l₁ l₂ → (∀ a b, F a b → G a b) → Paired G l₁ l₂
  := fun h f => by
  induction h with
  | nil => exact .nil
  | cons r _ ih => exact .cons (f _ _ r) ih
theorem ObjOk.stay (x : ObjOk P w H h a o) (k : ∀ b u, (b = a ∨ H b = some (.own a)) → h.get? b = some u → h'.get? b = some u)
    (ho : ∀ b, H b = some (.own a) → H' b = some (.own a)) (ht : ∀ b xs, H b = some (.tup xs) → H' b = some (.tup xs)) : ObjOk P w H' h' a o := by
  induction o with
  | lst xs => obtain ⟨z, its, n, r, e⟩ := x; exact ⟨z, its, n, r, k _ _ (.inl rfl) e⟩
  | tup xs => obtain ⟨z, its, r, ob, e, c⟩ := x; exact ⟨z, its, r, ob, k _ _ (.inl rfl) e, c⟩
  | dK kvs => obtain ⟨z, y, vs, r, ob, es, ep, e, c⟩ := x; exact ⟨z, y, vs, r, ob, es, ep, k _ _ (.inl rfl) e, c⟩
  | dT kvs =>
    obtain ⟨z, y, xs, r, ob, es, ep, e, c⟩ := x
    exact ⟨z, y, xs, Paired.mapP r fun p q z => ⟨z.1, ht _ _ z.2.1, z.2.2⟩, ob, es, ep, k _ _ (.inl rfl) e, c⟩
  | set S n => obtain ⟨ob, es, ep, t, e, c⟩ := x; exact ⟨ob, es, ep, t, k _ _ (.inl rfl) e, c⟩
  | ins C dx fs =>
    obtain ⟨d, z, ne, e, mA, ⟨od, es, ep, e2, c⟩, r⟩ := x
    exact ⟨ho _ d, z, ne, k _ _ (.inl rfl) e, mA, ⟨od, es, ep, k _ _ (.inr d) e2, c⟩, r⟩
  | own y => obtain ⟨ob, e⟩ := x; exact ⟨ob, k _ _ (.inl rfl) e⟩
  | xd fs => obtain ⟨mA, ⟨od, es, ep, e, c⟩, r⟩ := x; exact ⟨mA, ⟨od, es, ep, k _ _ (.inl rfl) e, c⟩, r⟩
  | rng lo hi => obtain ⟨t, u, v, e⟩ := x; exact ⟨t, u, v, k _ _ (.inl rfl) e⟩
  | frz ob u ih => obtain ⟨e, q⟩ := x; exact ⟨k _ _ (.inl rfl) e, ih q⟩
  | tbl ps =>
    have e : h.get? a = some { cls := .none, data := .fields ps } := x
    show h'.get? a = some { cls := .none, data := .fields ps }
    exact k a _ (.inl rfl) e
  | met f y =>
    have e : h.get? a = some (PySem.W.methodObj (.ref f) (.ref y)) := x
    show h'.get? a = some (PySem.W.methodObj (.ref f) (.ref y))
    exact k a _ (.inl rfl) e
  | ext φ => obtain ⟨p, ⟨o, e⟩, st⟩ := x; exact ⟨st _ _ p fun o q => k _ _ (.inl rfl) q, ⟨o, k _ _ (.inl rfl) e⟩, st⟩
theorem HOk.lt (x : HOk P w H h) (e : H a = some o) : a < h.objs.size := (x a o e).lt
theorem HOk.fresh (x : HOk P w H h) (e : h.objs.size ≤ a) : H a = none := by
  cases q : H a with
  | none => rfl
  | some u => exact absurd (Nat.lt_of_lt_of_le (x.lt q) e) (Nat.lt_irrefl _)
theorem HOk.kept (x : HOk P w H h) (k : ∀ b u, h.get? b = some u → h'.get? b = some u) : HOk P w H h' := fun a o e =>
  (x a o e).stay (fun b u _ q => k b u q) (fun _ q => q) fun _ _ q => q
theorem HOk.laid (x : HOk P w H h) (k : ∀ b u, h.get? b = some u → h'.get? b = some u) (hp : h.objs.size ≤ a) (new : ObjOk P w (upd H a o) h' a o) : HOk P w (upd H a o) h' := fun b u e => by
  have hn := x.fresh hp
  by_cases hb : b = a
  · subst hb; rw [upd_same] at e; cases e; exact new
  · rw [upd_ne hb] at e
    exact (x b u e).stay (fun c v _ q => k c v q) (fun c q => by rw [upd_ne (ne_of_none q hn)]; exact q) fun c xs q => by rw [upd_ne (ne_of_none q hn)]; exact q
end
noncomputable def Rd (H : Hp) (a : Addr) (u : HO) : Prop := H a = some u ∨ ∃ o, H a = some (.frz o u)
theorem Rd.ok {P : Program} {w : World} {H : Hp} {h : Heap} {a : Addr} {u : HO} (r : Rd H a u) (x : HOk P w H h) : ObjOk P w H h a u := by
  rcases r with r | ⟨o, r⟩
  · exact x a u r
  · obtain ⟨_, q⟩ := x a _ r
    exact q
noncomputable def Mut : Option HO → Prop
  | some (.lst _) => True
  | some (.dK _) => True
  | some (.dT _) => True
  | some (.set _ _) => True
  | some (.ins _ _ _) => True
  | some (.ext _) => True
  | _ => False
section
variable {P : Program} {w : World} {H : Hp} {h h' : Heap} {x e : Addr} {o' : HO}
theorem HOk.write (ok : HOk P w H h) (mu : Mut (H x)) (he : e = x ∨ H e = some (.own x)) (k : ∀ b u, b ≠ e → h.get? b = some u → h'.get? b = some u) (heo : ∃ u, h'.get? e = some u)
    (new : ObjOk P w (upd H x o') h' x o') : HOk P w (upd H x o') h' := fun b u q => by
  have nown : ∀ c y, H c = some (.own y) → c ≠ x := fun c y r z => by subst z; rw [r] at mu; exact mu
  have ntup : ∀ c xs, H c = some (.tup xs) → c ≠ x := fun c xs r z => by subst z; rw [r] at mu; exact mu
  by_cases hb : b = x
  · subst hb; rw [upd_same] at q; cases q; exact new
  · rw [upd_ne hb] at q
    by_cases hbe : b = e
    · have q' : H b = some (.own x) := by
        rcases he with z | z
        · exact absurd (hbe.trans z) hb
        · rw [hbe]; exact z
      rw [q] at q'; cases q'
      obtain ⟨v, hv⟩ := heo
      exact ⟨v, by rw [hbe]; exact hv⟩
    · refine (ok b u q).stay (fun c v hc r => k c v ?_ r) (fun c r => by rw [upd_ne (nown c b r)]; exact r) fun c xs r => by rw [upd_ne (ntup c xs r)]; exact r
      rcases hc with rfl | hc
      · exact hbe
      · rintro rfl
        rcases he with z | z
        · exact nown c b hc z
        · rw [hc] at z; cases z; exact hb rfl
end
structure Un (fs ex : List Addr) (H H' : Hp) (h h' : Heap) : Prop where
  keep : ∀ b o, h.get? b = some o → H b = none → b ∉ fs → b ∉ ex → h'.get? b = some o
  slot : ∀ b o, h.get? b = some o → H b = none → b ∈ fs → b ∉ ex → ∃ sl, h'.get? b = some { o with slots := sl }
  free : ∀ b o, h.get? b = some o → H b = none → b ∉ ex → H' b = none
  there : ∀ b o, h.get? b = some o → b ∉ ex → ∃ o', h'.get? b = some o'
  tups : ∀ b xs, H b = some (.tup xs) → H' b = some (.tup xs)
  frzs : ∀ b o u, H b = some (.frz o u) → H' b = some (.frz o u)
  tbls : ∀ b ps, H b = some (.tbl ps) → ∃ more, H' b = some (.tbl (ps ++ more))
section
variable {fs fs' ex ex' : List Addr} {H H1 H2 : Hp} {h h1 h2 h' : Heap} {a x e : Addr} {o : HO}
theorem Un.any (u : Un fs ex H H1 h h1) {b : Addr} {ob : Obj} (q : h.get? b = some ob) (n : H b = none) (hx : b ∉ ex) : ∃ sl, h1.get? b = some { ob with slots := sl } := by
  by_cases hb : b ∈ fs
  · exact u.slot b ob q n hb hx
  · exact ⟨ob.slots, u.keep b ob q n hb hx⟩
theorem Un.trans (a : Un fs ex H H1 h h1) (b : Un fs ex H1 H2 h1 h2) : Un fs ex H H2 h h2 where
  keep := fun c ob q n hc hx => b.keep c ob (a.keep c ob q n hc hx) (a.free c ob q n hx) hc hx
  slot := fun c ob q n hc hx => by
    obtain ⟨sl, e1⟩ := a.slot c ob q n hc hx
    obtain ⟨sl', e2⟩ := b.slot c _ e1 (a.free c ob q n hx) hc hx
    exact ⟨sl', e2⟩
  free := fun c ob q n hx => by
    obtain ⟨o', e1⟩ := a.there c ob q hx
    exact b.free c o' e1 (a.free c ob q n hx) hx
  there := fun c ob q hx => by
    obtain ⟨o', e1⟩ := a.there c ob q hx
    exact b.there c o' e1 hx
  tups := fun c xs q => b.tups c xs (a.tups c xs q)
  frzs := fun c ob xs q => b.frzs c ob xs (a.frzs c ob xs q)
  tbls := fun c ps q => by
    obtain ⟨m1, e1⟩ := a.tbls c ps q
    obtain ⟨m2, e2⟩ := b.tbls c _ e1
    exact ⟨m1 ++ m2, by rw [e2, Array.append_assoc]⟩
theorem Un.kept (k : ∀ b u, h.get? b = some u → h'.get? b = some u) : Un fs ex H H h h' :=
  ⟨fun b ob q _ _ _ => k b ob q, fun b ob q _ _ _ => ⟨ob.slots, k b ob q⟩, fun _ _ _ n _ => n, fun b ob q _ => ⟨ob, k b ob q⟩, fun _ _ q => q, fun _ _ _ q => q, fun _ ps q => ⟨#[], by rw [q]; simp⟩⟩
theorem Un.refl : Un fs ex H H h h := Un.kept fun _ _ q => q
theorem Un.laid (k : ∀ b u, h.get? b = some u → h'.get? b = some u) (hp : h.objs.size ≤ a) (hn : H a = none) : Un fs ex H (upd H a o) h h' where
  keep := fun b u q _ _ _ => k b u q
  slot := fun b u q _ _ _ => ⟨u.slots, k b u q⟩
  free := fun b u q n _ => by rw [upd_ne (Nat.ne_of_lt (Nat.lt_of_lt_of_le (Heap.lt_size q) hp))]; exact n
  there := fun b u q _ => ⟨u, k b u q⟩
  tups := fun b xs q => by rw [upd_ne (ne_of_none q hn)]; exact q
  frzs := fun b u xs q => by rw [upd_ne (ne_of_none q hn)]; exact q
  tbls := fun b ps q => ⟨#[], by rw [upd_ne (ne_of_none q hn), q]; simp⟩
theorem Un.write (mu : Mut (H x)) (he : e = x ∨ H e = some (.own x)) (k : ∀ b u, b ≠ e → h.get? b = some u → h'.get? b = some u) (heo : ∃ u, h'.get? e = some u) : Un fs ex H (upd H x o) h h' := by
  have hx : ∀ b, H b = none → b ≠ x := fun b n z => by subst z; rw [n] at mu; exact mu
  have hb : ∀ b, H b = none → b ≠ e := fun b n z => by
    subst z
    rcases he with r | r
    · exact hx b n r
    · rw [n] at r; cases r
  have hm : ∀ b u, H b = some u → ¬ Mut (some u) → b ≠ x := fun b u q nm z => by subst z; rw [q] at mu; exact nm mu
  refine ⟨fun b u q n _ _ => k b u (hb b n) q, fun b u q n _ _ => ⟨u.slots, k b u (hb b n) q⟩, fun b u q n _ => by rw [upd_ne (hx b n)]; exact n, fun b u q _ => ?_,
    fun b xs q => by rw [upd_ne (hm b _ q fun z => z)]; exact q, fun b u xs q => by rw [upd_ne (hm b _ q fun z => z)]; exact q, fun b ps q => ⟨#[], by rw [upd_ne (hm b _ q fun z => z), q]; simp⟩⟩
  by_cases hbe : b = e
  · subst hbe; exact heo
  · exact ⟨u, k b u hbe q⟩
theorem Un.mono (u : Un fs ex H H1 h h1) (hs : ∀ b ∈ fs, b ∈ fs') (hx : ∀ b ∈ ex, b ∈ ex') : Un fs' ex' H H1 h h1 :=
  ⟨fun b ob q n hb he => u.keep b ob q n (fun z => hb (hs b z)) fun z => he (hx b z), fun _ _ q n _ he => u.any q n fun z => he (hx _ z), fun b ob q n he => u.free b ob q n fun z => he (hx b z), fun b ob q he => u.there b ob q fun z => he (hx b z), u.tups, u.frzs, u.tbls⟩
end
noncomputable def trk (h : Heap) (H : Hp) : List Addr := (List.range h.objs.size).filter fun a => (H a).isSome
noncomputable def hidT (h : Heap) (H : Hp) : Heap := PySem.W.hideAll h (trk h H)
theorem hidT_size (h : Heap) (H : Hp) : (hidT h H).objs.size = h.objs.size := PySem.W.hideAll_size _ _
theorem hidT_get {h : Heap} {H : Hp} {b : Addr} {o : Obj} (e : h.get? b = some o) (n : H b = none) : (hidT h H).get? b = some o :=
  PySem.W.hideAll_get _ e fun hm => by
    have q : (H b).isSome = true := (List.mem_filter.mp hm).2
    rw [n] at q; simp at q
theorem of_hidT {h : Heap} {H : Hp} {b : Addr} {o : Obj} (e : (hidT h H).get? b = some o) : h.get? b = some o ∧ H b = none := by
  have e' : h.get? b = some o := PySem.W.of_hideAll (trk h H) e
  refine ⟨e', ?_⟩
  cases q : H b with
  | none => rfl
  | some x =>
    have hm : b ∈ trk h H := List.mem_filter.mpr ⟨List.mem_range.mpr (Heap.lt_size e'), by simp [q]⟩
    have z : (hidT h H).get? b = none := PySem.W.hideAll_none (trk h H) hm
    rw [z] at e; cases e
noncomputable def allNews (g h : Heap) (L : Addr) : List (Addr × Obj) := (List.range h.objs.size).filterMap fun a => if a = L ∨ (g.get? a).isSome = true then none else (h.get? a).map fun o => (a, o)
noncomputable def rest (g h : Heap) (L d : Addr) : List (Addr × Obj) := (allNews g h L).filter fun p => decide (p.1 ≠ d)
end L2
namespace L2
open PySem PySem.Spec PyProof.Rows
structure Mod (K : PySem.W.Frag) (mg : Str → Option Value) (base : Heap) : Prop where
  kin : K.In base
  glob : base.Ns mainGlobals mg
  blt : ∃ mb, base.Ns builtinsNs mb ∧ ∀ x : Str, x ≠ "__name__" → mb x = bootBuiltins x
  nolimit : base.NoLimit
structure Cx where
  prog : Program
  w : World
  K : PySem.W.Frag
  mg : Str → Option Value
  base : Heap
  A : Around
  N : List Str
  s₀ : Shared
  H₀ : Hp
  env : Env
  outer : List Env
  stack : List Env
  ex : List Addr
  fn : Str → Bool
  calm : Bool
  pn : List (Addr × Obj)
  xe : Value → Shared → Prop
noncomputable def frs (l : List Env) : List Addr := l.filterMap (·.frame)
noncomputable abbrev Cx.fs (X : Cx) : List Addr := frs X.outer
noncomputable def Vis (sc : Scope) (x : Str) : Prop := sc.names.lookup x = some .local ∨ sc.names.lookup x = some .cell ∨ sc.names.lookup x = some .free
noncomputable def Loc (sc : Scope) (x : Str) : Prop := sc.names.lookup x = some .local ∨ sc.names.lookup x = some .cell
noncomputable def Look (env : Env) (h : Heap) (m : Str → Option Value) (x : Str) (u : Value) : Prop :=
  (env.kindOf x = some .local ∧ m x = some u) ∨ ((env.kindOf x = some .cell ∨ env.kindOf x = some .free) ∧ ∃ c, env.cells.lookup x = some c ∧ h.IsCell c (some u))
structure Cx.Ok (X : Cx) : Prop where
  mod : Mod X.K X.mg X.base
  kind : X.env.scope.kind = .function
  glob : X.env.globals = mainGlobals
  blt : X.env.builtins = builtinsNs
  above : X.s₀.heap.objs.size ≤ X.env.locals
  inj : ∀ x y c, X.env.cells.lookup x = some c → X.env.cells.lookup y = some c → x = y
  has : ∀ x, (X.env.kindOf x = some .cell ∨ X.env.kindOf x = some .free) → ∃ c, X.env.cells.lookup x = some c
  cab : ∀ x c, X.fn x = true → X.env.cells.lookup x = some c → X.s₀.heap.objs.size ≤ c
  hd : X.calm = true → X.A.handled = none
  frames : X.A.frames = some X.stack
  stk : X.stack = X.outer ∨ (X.stack = X.env :: X.outer ∧ X.env.frame = some X.env.locals)
  exf : ∀ b ∈ X.ex, b ≠ X.env.locals ∧ ∀ x c, X.env.cells.lookup x = some c → c ≠ b
  bs : ∀ b o, X.base.get? b = some o → X.s₀.heap.get? b = some o ∧ X.H₀ b = none
  bsz : X.base.objs.size ≤ X.s₀.heap.objs.size
  noex : ∀ b o, X.base.get? b = some o → b ∉ X.ex
  exfs : ∀ b ∈ X.ex, b ∉ X.fs
  funs : X.s₀.heap.FunFrames X.base X.outer
  frf : ∀ b ∈ X.fs, X.H₀ b = none
structure Inv (X : Cx) (pins : List (Addr × Obj)) (σ : List (Option V)) (H : Hp) (s : Shared) : Prop where
  ok : X.Ok
  os : s.os = X.s₀.os
  bare : AllBare s.gens
  base : Un X.fs X.ex X.H₀ H X.s₀.heap s.heap
  loc : ∃ m, s.heap.Ns X.env.locals m ∧ ∀ (i : Nat) (x : Str) (v : V), X.N[i]? = some x → σ[i]? = some (some v) → Vis X.env.scope x → ∃ u, RelV v u ∧ Look X.env s.heap m x u
  cell : ∀ x c, X.env.cells.lookup x = some c → ∃ v, s.heap.IsCell c v
  free : H X.env.locals = none
  freeC : ∀ x c, X.env.cells.lookup x = some c → H c = none
  pin : ∀ p ∈ X.pn ++ pins, s.heap.get? p.1 = some p.2 ∧ H p.1 = none ∧ p.1 ≠ X.env.locals ∧ p.1 ∉ X.fs ∧ ∀ v, p.2.data ≠ .cell v
  hok : HOk X.prog X.w H s.heap
  len : σ.length = X.N.length
section
variable {X : Cx} {pins : List (Addr × Obj)} {σ : List (Option V)} {H H' : Hp} {s : Shared} {h' : Heap}
theorem Cx.Ok.nofr (ok : X.Ok) {b : Addr} {o : Obj} (e : X.base.get? b = some o) : b ∉ X.fs := fun hb => by
  have := (ok.funs.mem hb).1
  rw [e] at this; cases this
theorem Inv.bs (I : Inv X pins σ H s) : ∀ b o, X.base.get? b = some o → s.heap.get? b = some o ∧ H b = none := fun b o e =>
  ⟨I.base.keep b o (I.ok.bs b o e).1 (I.ok.bs b o e).2 (I.ok.nofr e) (I.ok.noex b o e), I.base.free b o (I.ok.bs b o e).1 (I.ok.bs b o e).2 (I.ok.noex b o e)⟩
theorem Inv.bk (I : Inv X pins σ H s) : ∀ b o, X.base.get? b = some o → s.heap.get? b = some o := fun b o e => (I.bs b o e).1
theorem Inv.mod (I : Inv X pins σ H s) : Mod X.K X.mg X.base := I.ok.mod
theorem Inv.kIn (I : Inv X pins σ H s) : X.K.In s.heap := I.ok.mod.kin.keeps I.bk
theorem Inv.lt (I : Inv X pins σ H s) : X.env.locals < s.heap.objs.size := let ⟨_, hn, _⟩ := I.loc; hn.lt
theorem Inv.sz (I : Inv X pins σ H s) : X.s₀.heap.objs.size ≤ s.heap.objs.size := Nat.le_trans I.ok.above (Nat.le_of_lt I.lt)
theorem Inv.nofs (I : Inv X pins σ H s) {a : Addr} (h : s.heap.objs.size ≤ a) : a ∉ X.fs := fun hb => by
  obtain ⟨_, o, ho, _⟩ := I.ok.funs.mem hb
  exact absurd (Nat.lt_of_lt_of_le (Heap.lt_size ho) (Nat.le_trans I.sz h)) (Nat.lt_irrefl _)
theorem Inv.cne (I : Inv X pins σ H s) : ∀ x c, X.env.cells.lookup x = some c → c ≠ X.env.locals := fun x c e z => by
  obtain ⟨v, o, ho, hd⟩ := I.cell x c e
  obtain ⟨m, ⟨o', es, ep, ho', hd', _⟩, _⟩ := I.loc
  rw [z, ho'] at ho; cases ho; rw [hd'] at hd; cases hd
theorem Inv.funs (I : Inv X pins σ H s) : s.heap.FunFrames X.base X.outer := by
  have all : ∀ (l : List Env), (∀ b ∈ frs l, b ∈ X.fs) → X.s₀.heap.FunFrames X.base l → s.heap.FunFrames X.base l := by
    intro l
    induction l with
    | nil => intro _ _; trivial
    | cons env r ih =>
      intro hs hl
      obtain ⟨hk, ⟨L, o, hf, hn, ho, hd⟩, hr⟩ := hl
      have hL : L ∈ X.fs := hs L (by unfold frs; rw [List.filterMap_cons, hf]; exact List.mem_cons_self)
      obtain ⟨sl, e⟩ := I.base.slot L o ho (I.ok.frf L hL) hL fun z => I.ok.exfs L z hL
      exact ⟨hk, ⟨L, _, hf, hn, e, hd⟩, ih (fun b hb => hs b (by unfold frs; rw [List.filterMap_cons, hf]; exact List.mem_cons_of_mem _ hb)) hr⟩
  exact all X.outer (fun _ hb => hb) I.ok.funs
theorem Inv.stack (I : Inv X pins σ H s) : s.heap.FunFrames X.base X.stack := by
  rcases I.ok.stk with e | ⟨e, hf⟩
  · rw [e]; exact I.funs
  · rw [e]
    obtain ⟨m, hn, _⟩ := I.loc
    refine .cons (by rw [I.ok.kind]; decide) hf hn ?_ I.funs
    exact Heap.get?_none_of_le (Nat.le_trans I.ok.bsz I.ok.above)
theorem Inv.stkSub (I : Inv X pins σ H s) : ∀ b ∈ frs X.stack, b ∈ X.env.locals :: X.fs := fun b hb => by
  rcases I.ok.stk with e | ⟨e, hf⟩
  · rw [e] at hb; exact List.mem_cons_of_mem _ hb
  · rw [e] at hb
    unfold frs at hb
    rw [List.filterMap_cons, hf] at hb
    exact hb
theorem Inv.stkFree (I : Inv X pins σ H s) : ∀ b ∈ frs X.stack, H b = none := fun b hb => by
  rcases List.mem_cons.mp (I.stkSub b hb) with e | hb
  · rw [e]; exact I.free
  · obtain ⟨_, o, ho, _⟩ := I.ok.funs.mem hb
    exact I.base.free b o ho (I.ok.frf b hb) fun z => I.ok.exfs b z hb
theorem Inv.step {g' : Array GenState} {t' : Nat} {d' : Drawn} {ch : List Addr} (I : Inv X pins σ H s)
    (hch : ∀ b ∈ ch, (b ∈ X.ex ∨ X.s₀.heap.objs.size ≤ b) ∧ b ≠ X.env.locals ∧ (∀ x c, X.env.cells.lookup x = some c → c ≠ b) ∧ ∀ p ∈ X.pn ++ pins, p.1 ≠ b)
    (keep : ∀ b o, b ≠ X.env.locals → b ∉ X.fs → b ∉ ch → s.heap.get? b = some o → H b = none → h'.get? b = some o)
    (slot : ∀ b o, b ≠ X.env.locals → b ∈ X.fs → b ∉ ch → s.heap.get? b = some o → H b = none → ∃ sl, h'.get? b = some { o with slots := sl }) (free : ∀ b o, b ∉ ch → s.heap.get? b = some o → H b = none → H' b = none)
    (there : ∀ b o, b ∉ ch → s.heap.get? b = some o → ∃ o', h'.get? b = some o')
    (tups : ∀ b xs, H b = some (.tup xs) → H' b = some (.tup xs)) (frzs : ∀ b o u, H b = some (.frz o u) → H' b = some (.frz o u)) (tbls : ∀ b ps, H b = some (.tbl ps) → ∃ more, H' b = some (.tbl (ps ++ more)))
    (ns : ∀ m, s.heap.Ns X.env.locals m → h'.Ns X.env.locals m) (hok : HOk X.prog X.w H' h') (hg : AllBare g') :
    Inv X pins σ H' { s with heap := h', gens := g', drawn := d', toks := t' } := by
  have neL : ∀ b o, X.s₀.heap.get? b = some o → b ≠ X.env.locals := fun b o e => Nat.ne_of_lt (Nat.lt_of_lt_of_le (Heap.lt_size e) I.ok.above)
  have neC : ∀ b o, X.s₀.heap.get? b = some o → b ∉ X.ex → b ∉ ch := fun b o e hx hb => by
    rcases (hch b hb).1 with z | z
    · exact hx z
    · exact absurd (Nat.lt_of_lt_of_le (Heap.lt_size e) z) (Nat.lt_irrefl _)
  have cellK : ∀ x c, X.env.cells.lookup x = some c → ∀ v, s.heap.IsCell c v → h'.IsCell c v := fun x c e v ⟨o, ho, hd⟩ => by
    have nch : c ∉ ch := fun z => (hch c z).2.2.1 x c e rfl
    by_cases hc : c ∈ X.fs
    · obtain ⟨sl, q⟩ := slot c o (I.cne x c e) hc nch ho (I.freeC x c e)
      exact ⟨_, q, hd⟩
    · exact ⟨o, keep c o (I.cne x c e) hc nch ho (I.freeC x c e), hd⟩
  refine ⟨I.ok, I.os, hg, ⟨fun b o e n hb hx => ?_, fun b o e n hb hx => ?_, fun b o e n hx => ?_, fun b o e hx => ?_, fun b xs e => tups b xs (I.base.tups b xs e), fun b o xs e => frzs b o xs (I.base.frzs b o xs e), fun b ps e => ?_⟩, ?_, fun x c e => ?_, ?_, fun x c e => ?_, fun p hp => ?_, hok, I.len⟩
  · exact keep b o (neL b o e) hb (neC b o e hx) (I.base.keep b o e n hb hx) (I.base.free b o e n hx)
  · obtain ⟨sl, e1⟩ := I.base.slot b o e n hb hx
    obtain ⟨sl', e2⟩ := slot b _ (neL b o e) hb (neC b o e hx) e1 (I.base.free b o e n hx)
    exact ⟨sl', e2⟩
  · obtain ⟨o', e1⟩ := I.base.there b o e hx
    exact free b o' (neC b o e hx) e1 (I.base.free b o e n hx)
  · obtain ⟨o', e1⟩ := I.base.there b o e hx
    exact there b o' (neC b o e hx) e1
  · obtain ⟨m1, e1⟩ := I.base.tbls b ps e
    obtain ⟨m2, e2⟩ := tbls b _ e1
    exact ⟨m1 ++ m2, by rw [e2, Array.append_assoc]⟩
  · obtain ⟨m, hn, hl⟩ := I.loc
    refine ⟨m, ns m hn, fun i x v e1 e2 e3 => ?_⟩
    obtain ⟨u, r, l⟩ := hl i x v e1 e2 e3
    refine ⟨u, r, ?_⟩
    rcases l with l | ⟨k, c, e, z⟩
    · exact .inl l
    · exact .inr ⟨k, c, e, cellK x c e _ z⟩
  · obtain ⟨v, z⟩ := I.cell x c e
    exact ⟨v, cellK x c e v z⟩
  · obtain ⟨m, ⟨o, _, _, ho, _⟩, _⟩ := I.loc
    exact free _ o (fun z => (hch _ z).2.1 rfl) ho I.free
  · obtain ⟨v, o, ho, hd⟩ := I.cell x c e
    exact free c o (fun z => (hch c z).2.2.1 x c e rfl) ho (I.freeC x c e)
  · obtain ⟨e, n, ne, nf, d⟩ := I.pin p hp
    have nch : p.1 ∉ ch := fun z => (hch p.1 z).2.2.2 p hp rfl
    exact ⟨keep p.1 p.2 ne nf nch e n, free p.1 p.2 nch e n, ne, nf, d⟩
theorem Inv.un {t' : Nat} (I : Inv X pins σ H s) (u : Un X.fs [] H H' s.heap h') (hok : HOk X.prog X.w H' h') : Inv X pins σ H' { s with heap := h', toks := t' } := by
  obtain ⟨m, ⟨o, es, ep, ho, r⟩, _⟩ := id I.loc
  obtain ⟨sl, hL⟩ := u.any ho I.free (by simp)
  exact I.step (g' := s.gens) (d' := s.drawn) (ch := []) (fun _ z => nomatch z) (fun b o _ hb _ e n => u.keep b o e n hb (by simp)) (fun b o _ hb _ e n => u.slot b o e n hb (by simp)) (fun b o _ e n => u.free b o e n (by simp)) (fun b o _ e => u.there b o e (by simp)) u.tups u.frzs u.tbls (fun m' hm => by
    obtain ⟨o', es', ep', ho', r'⟩ := hm
    rw [ho] at ho'; cases ho'
    exact ⟨_, es', ep', hL, r'⟩) hok I.bare
theorem Inv.call {g' : Array GenState} {t' : Nat} {d' : Drawn} {ch : List Addr} (I : Inv X pins σ H s) (u : Un (frs X.stack) ch H H' s.heap h') (hok : HOk X.prog X.w H' h') (hg : AllBare g')
    (hch : ∀ b ∈ ch, (b ∈ X.ex ∨ X.s₀.heap.objs.size ≤ b) ∧ b ≠ X.env.locals ∧ (∀ x c, X.env.cells.lookup x = some c → c ≠ b) ∧ ∀ p ∈ X.pn ++ pins, p.1 ≠ b) :
    Inv X pins σ H' { s with heap := h', gens := g', drawn := d', toks := t' } := by
  obtain ⟨m, ⟨o, es, ep, ho, r⟩, _⟩ := id I.loc
  obtain ⟨sl, hL⟩ := u.any ho I.free fun z => (hch _ z).2.1 rfl
  exact I.step (ch := ch) hch (fun b o hL hb hc e n => u.keep b o e n (fun z => (List.mem_cons.mp (I.stkSub b z)).elim hL hb) hc) (fun b o _ _ hc e n => u.any e n hc) (fun b o hc e n => u.free b o e n hc) (fun b o hc e => u.there b o e hc) u.tups u.frzs u.tbls (fun m' hm => by
    obtain ⟨o', es', ep', ho', r'⟩ := hm
    rw [ho] at ho'; cases ho'
    exact ⟨_, es', ep', hL, r'⟩) hok hg
theorem Inv.turned {t' : Nat} {it : Addr} (I : Inv X pins σ H s) (k : ∀ b o, b ≠ it → s.heap.get? b = some o → h'.get? b = some o) (hn : H it = none) (hL : it ≠ X.env.locals)
    (h1 : it ∈ X.ex ∨ X.s₀.heap.objs.size ≤ it) (h2 : ∀ x c, X.env.cells.lookup x = some c → c ≠ it) (h3 : ∀ p ∈ X.pn ++ pins, p.1 ≠ it) : Inv X pins σ H { s with heap := h', toks := t' } := by
  have nit : ∀ b u, H b = some u → b ≠ it := fun b u e z => by rw [z, hn] at e; cases e
  refine I.step (g' := s.gens) (d' := s.drawn) (ch := [it]) (fun b hb => ?_) (fun b o _ _ hc e _ => k b o (fun z => hc (by simp [z])) e) (fun b o _ _ hc e _ => ⟨o.slots, k b o (fun z => hc (by simp [z])) e⟩) (fun _ _ _ _ n => n)
    (fun b o hc e => ⟨o, k b o (fun z => hc (by simp [z])) e⟩) (fun _ _ e => e) (fun _ _ _ e => e) (fun b ps e => ⟨#[], by rw [e]; simp⟩) (fun m hm => ?_) (fun b u e => ?_) I.bare
  · have e : b = it := by simpa using hb
    subst e
    exact ⟨h1, hL, h2, h3⟩
  · obtain ⟨o, es, ep, ho, r⟩ := hm
    exact ⟨o, es, ep, k _ o (Ne.symm hL) ho, r⟩
  · refine (I.hok b u e).stay (fun c v hc q => k c v ?_ q) (fun _ q => q) fun _ _ q => q
    rcases hc with z | z
    · rw [z]; exact nit b u e
    · exact nit c _ z
theorem Inv.tok (I : Inv X pins σ H s) (t : Nat) : Inv X pins σ H { s with toks := t } := I.un (h' := s.heap) (t' := t) Un.refl I.hok
theorem Inv.kept {t' : Nat} (I : Inv X pins σ H s) (k : ∀ b u, s.heap.get? b = some u → h'.get? b = some u) : Inv X pins σ H { s with heap := h', toks := t' } := I.un (Un.kept k) (I.hok.kept k)
theorem Inv.laid {a : Addr} {o : HO} {t' : Nat} (I : Inv X pins σ H s) (k : ∀ b u, s.heap.get? b = some u → h'.get? b = some u) (hp : s.heap.objs.size ≤ a) (new : ObjOk X.prog X.w (upd H a o) h' a o) :
    Inv X pins σ (upd H a o) { s with heap := h', toks := t' } := I.un (Un.laid k hp (I.hok.fresh hp)) (I.hok.laid k hp new)
theorem Inv.write {x e : Addr} {o : HO} {t' : Nat} (I : Inv X pins σ H s) (mu : Mut (H x)) (he : e = x ∨ H e = some (.own x)) (k : ∀ b u, b ≠ e → s.heap.get? b = some u → h'.get? b = some u) (heo : ∃ u, h'.get? e = some u)
    (new : ObjOk X.prog X.w (upd H x o) h' x o) : Inv X pins σ (upd H x o) { s with heap := h', toks := t' } := I.un (Un.write mu he k heo) (I.hok.write mu he k heo new)
theorem Inv.pins_of {pins' : List (Addr × Obj)} (I : Inv X pins σ H s) (h : ∀ p ∈ pins', s.heap.get? p.1 = some p.2 ∧ H p.1 = none ∧ p.1 ≠ X.env.locals ∧ p.1 ∉ X.fs ∧ ∀ v, p.2.data ≠ .cell v) : Inv X pins' σ H s :=
  ⟨I.ok, I.os, I.bare, I.base, I.loc, I.cell, I.free, I.freeC, fun p hp => (List.mem_append.mp hp).elim (fun z => I.pin p (List.mem_append_left _ z)) (h p), I.hok, I.len⟩
theorem nodup_ix {N : List Str} (hN : N.Nodup) {i j : Nat} {x : Str} (a : N[i]? = some x) (b : N[j]? = some x) : i = j := by
  obtain ⟨h1, e1⟩ := List.getElem?_eq_some_iff.mp a
  obtain ⟨h2, e2⟩ := List.getElem?_eq_some_iff.mp b
  exact (List.getElem_inj hN).mp (e1.trans e2.symm)
theorem store_ok2 {M : Model} {A : Around} {E : Value → Shared → Prop} {i : Nat} {x : Str} {v : V} {u : Value} {Q : Unit → Shared → Prop} (I : Inv X pins σ H s) (hN : X.N.Nodup) (hi : X.N[i]? = some x) (hx : Loc X.env.scope x) (r : RelV v u)
    (h : ∀ s', Inv X pins (σ.set i (some v)) H s' → (∃ a, Heap.SameBut a s.heap s'.heap ∧ (a = X.env.locals ∨ X.env.cells.lookup x = some a)) → Q () s') (hf : X.fn x = true ∨ X.env.scope.names.lookup x = some .local := by first | exact .inl rfl | exact .inr rfl | assumption) : wpAny M A (storeName X.env x u) Q E s := by
  obtain ⟨m, hn, hl⟩ := id I.loc
  have hcls : (X.env.scope.kind == .class || (X.env.scope.kind == .module && X.env.locals != X.env.globals)) = false := by rw [I.ok.kind]; rfl
  have hiσ : i < σ.length := by rw [I.len]; exact (List.getElem?_eq_some_iff.mp hi).1
  have cne := I.cne
  have tracked : ∀ {a : Addr} {h' : Heap}, (∃ o, s.heap.get? a = some o ∧ H a = none) → Heap.SameBut a s.heap h' → HOk X.prog X.w H h' := fun {a h'} ha hs b ob e => by
    obtain ⟨_, _, hfree⟩ := ha
    refine (I.hok b ob e).stay (fun c w' hc q => (hs.2 c ?_).trans q) (fun _ q => q) fun _ _ q => q
    rintro rfl
    rcases hc with rfl | hc
    · rw [hfree] at e; cases e
    · rw [hfree] at hc; cases hc
  rcases hx with hk | hk
  · refine wpAny_storeName_local hk hn (fun h' hn' hs => ?_) hcls
    obtain ⟨oL, _, _, hoL, _⟩ := id hn
    refine h _ ⟨I.ok, I.os, I.bare, ⟨fun b o e n hb hx => ?_, fun b o e n hb hx => ?_, I.base.free, fun b o e hx => ?_, I.base.tups, I.base.frzs, I.base.tbls⟩, ⟨_, hn', fun j y v' e1 e2 e3 => ?_⟩, fun y c e => ?_, I.free, I.freeC, fun p hp => ?_, tracked ⟨oL, hoL, I.free⟩ hs, by simpa using I.len⟩ ⟨_, hs, .inl rfl⟩
    · exact (hs.2 b (Nat.ne_of_lt (Nat.lt_of_lt_of_le (Heap.lt_size e) I.ok.above))).trans (I.base.keep b o e n hb hx)
    · obtain ⟨sl, e1⟩ := I.base.slot b o e n hb hx
      exact ⟨sl, (hs.2 b (Nat.ne_of_lt (Nat.lt_of_lt_of_le (Heap.lt_size e) I.ok.above))).trans e1⟩
    · obtain ⟨o', e1⟩ := I.base.there b o e hx
      exact ⟨o', (hs.2 b (Nat.ne_of_lt (Nat.lt_of_lt_of_le (Heap.lt_size e) I.ok.above))).trans e1⟩
    · by_cases hj : j = i
      · subst hj
        rw [hi] at e1; cases e1
        rw [List.getElem?_set_self hiσ] at e2
        cases e2
        exact ⟨u, r, .inl ⟨hk, by simp⟩⟩
      · rw [List.getElem?_set_ne (Ne.symm hj)] at e2
        obtain ⟨u', r', q⟩ := hl j y v' e1 e2 e3
        refine ⟨u', r', ?_⟩
        rcases q with ⟨k, e⟩ | ⟨k, c, e, z⟩
        · refine .inl ⟨k, ?_⟩
          have : y ≠ x := fun e => hj (nodup_ix hN e1 (e ▸ hi))
          simp [this, e]
        · exact .inr ⟨k, c, e, z.sameBut hs (cne y c e)⟩
    · obtain ⟨w', z⟩ := I.cell y c e
      exact ⟨w', z.sameBut hs (cne y c e)⟩
    · obtain ⟨e, n, ne, nf, d⟩ := I.pin p hp
      exact ⟨(hs.2 p.1 ne).trans e, n, ne, nf, d⟩
  · have hfn : X.fn x = true := by
      rcases hf with z | z
      · exact z
      · rw [z] at hk; cases hk
    obtain ⟨c, hc⟩ := I.ok.has x (.inl hk)
    obtain ⟨w', z⟩ := I.cell x c hc
    refine wpAny_storeName_cell I.ok.kind hk hc z (fun h' hc' hs => ?_)
    obtain ⟨oc, hoc, hocd⟩ := id z
    refine h { s with heap := h' } ⟨I.ok, I.os, I.bare, ⟨fun b o e n hb hx => ?_, fun b o e n hb hx => ?_, I.base.free, fun b o e hx => ?_, I.base.tups, I.base.frzs, I.base.tbls⟩, ⟨m, hn.sameBut hs (Ne.symm (cne x c hc)), fun j y v' e1 e2 e3 => ?_⟩, fun y c' e => ?_, I.free, I.freeC, fun p hp => ?_, tracked ⟨oc, hoc, I.freeC x c hc⟩ hs, by simpa using I.len⟩ ⟨c, hs, .inr hc⟩
    · exact (hs.2 b (Nat.ne_of_lt (Nat.lt_of_lt_of_le (Heap.lt_size e) (I.ok.cab x c hfn hc)))).trans (I.base.keep b o e n hb hx)
    · obtain ⟨sl, e1⟩ := I.base.slot b o e n hb hx
      exact ⟨sl, (hs.2 b (Nat.ne_of_lt (Nat.lt_of_lt_of_le (Heap.lt_size e) (I.ok.cab x c hfn hc)))).trans e1⟩
    · obtain ⟨o', e1⟩ := I.base.there b o e hx
      exact ⟨o', (hs.2 b (Nat.ne_of_lt (Nat.lt_of_lt_of_le (Heap.lt_size e) (I.ok.cab x c hfn hc)))).trans e1⟩
    · by_cases hj : j = i
      · subst hj
        rw [hi] at e1; cases e1
        rw [List.getElem?_set_self hiσ] at e2
        cases e2
        exact ⟨u, r, .inr ⟨.inl hk, c, hc, hc'⟩⟩
      · rw [List.getElem?_set_ne (Ne.symm hj)] at e2
        obtain ⟨u', r', q⟩ := hl j y v' e1 e2 e3
        refine ⟨u', r', ?_⟩
        rcases q with q | ⟨k, c', e, z'⟩
        · exact .inl q
        · refine .inr ⟨k, c', e, z'.sameBut hs ?_⟩
          rintro rfl
          exact hj (nodup_ix hN e1 (I.ok.inj _ _ _ e hc ▸ hi))
    · by_cases hcc : c' = c
      · subst hcc; exact ⟨_, hc'⟩
      · obtain ⟨w2, z2⟩ := I.cell y c' e
        exact ⟨w2, z2.sameBut hs hcc⟩
    · obtain ⟨e, n, ne, nf, d⟩ := I.pin p hp
      refine ⟨(hs.2 p.1 ?_).trans e, n, ne, nf, d⟩
      intro q
      rw [q, hoc] at e
      have q' : oc = p.2 := Option.some.inj e
      exact d w' (by rw [← q']; exact hocd)
theorem store_ok {M : Model} {A : Around} {E : Value → Shared → Prop} {i : Nat} {x : Str} {v : V} {u : Value} {Q : Unit → Shared → Prop} (I : Inv X pins σ H s) (hN : X.N.Nodup) (hi : X.N[i]? = some x) (hx : Loc X.env.scope x) (r : RelV v u)
    (h : ∀ s', Inv X pins (σ.set i (some v)) H s' → Q () s') (hf : X.fn x = true ∨ X.env.scope.names.lookup x = some .local := by first | exact .inl rfl | exact .inr rfl | assumption) : wpAny M A (storeName X.env x u) Q E s :=
  store_ok2 I hN hi hx r (fun s' I' _ => h s' I') hf
theorem Inv.call' {s' : Shared} {ch : List Addr} (I : Inv X pins σ H s) (ho : s'.os = s.os) (u : Un (frs X.stack) ch H H' s.heap s'.heap) (hok : HOk X.prog X.w H' s'.heap) (hg : AllBare s'.gens)
    (hch : ∀ b ∈ ch, (b ∈ X.ex ∨ X.s₀.heap.objs.size ≤ b) ∧ b ≠ X.env.locals ∧ (∀ x c, X.env.cells.lookup x = some c → c ≠ b) ∧ ∀ p ∈ X.pn ++ pins, p.1 ≠ b) : Inv X pins σ H' s' := by
  obtain ⟨h', g', d', t', o'⟩ := s'
  have e : o' = s.os := ho
  subst e
  exact I.call (g' := g') (t' := t') (d' := d') u hok hg hch
end
noncomputable abbrev XK := Value → Option Addr → Hp → Prop
noncomputable abbrev St := List (Option V)
noncomputable abbrev VK := V → Hp → Prop
noncomputable abbrev TE := St → Hp → VK → Prop
noncomputable abbrev TT := St → Hp → (Bool → Hp → Prop) → Prop
noncomputable abbrev TA := St → Hp → (List V → Hp → Prop) → Prop
structure Ends where
  nx : St → Hp → Prop
  rt : VK
  bk : St → Hp → Prop := fun _ _ => False
  ct : St → Hp → Prop := fun _ _ => False
noncomputable abbrev TS := Ends → St → Hp → Prop
noncomputable def EP (X : Cx) (pins : List (Addr × Obj)) (σ : St) (Q : VK) (u : Value) (s' : Shared) : Prop := ∃ v H', Inv X pins σ H' s' ∧ RelV v u ∧ Q v H'
noncomputable def TP (X : Cx) (pins : List (Addr × Obj)) (σ : St) (Q : Bool → Hp → Prop) (b : Bool) (s' : Shared) : Prop := ∃ H', Inv X pins σ H' s' ∧ Q b H'
noncomputable def AP (X : Cx) (pins : List (Addr × Obj)) (σ : St) (Q : List V → Hp → Prop) (us : List Value) (s' : Shared) : Prop := ∃ vs H', Inv X pins σ H' s' ∧ Vals vs us ∧ Q vs H'
noncomputable def SP (X : Cx) (pins : List (Addr × Obj)) (D : Ends) (f : Flow) (s' : Shared) : Prop :=
  match f with
  | .next => ∃ σ' H', Inv X pins σ' H' s' ∧ D.nx σ' H'
  | .brk => ∃ σ' H', Inv X pins σ' H' s' ∧ D.bk σ' H'
  | .cont => ∃ σ' H', Inv X pins σ' H' s' ∧ D.ct σ' H'
  | .ret u => ∃ v σ' H', Inv X pins σ' H' s' ∧ RelV v u ∧ D.rt v H'
noncomputable def PE (X : Cx) (e : Expr) (t : TE) : Prop :=
  ∀ (pins : List (Addr × Obj)) (s : Shared) (σ : St) (H : Hp) (Q : VK), Inv X pins σ H s → t σ H Q → wpAny (model X.prog X.w) X.A (eval e X.env) (EP X pins σ Q) X.xe s
noncomputable def PT (X : Cx) (e : Expr) (t : TT) : Prop :=
  ∀ (pins : List (Addr × Obj)) (s : Shared) (σ : St) (H : Hp) (Q : Bool → Hp → Prop), Inv X pins σ H s → t σ H Q → wpAny (model X.prog X.w) X.A (isTrue e X.env (eval e X.env)) (TP X pins σ Q) X.xe s
noncomputable def PW (X : Cx) (e : Expr) (t : TT) : Prop :=
  ∀ (whole : Sem Value) (pins : List (Addr × Obj)) (s : Shared) (σ : St) (H : Hp) (Q : Bool → Hp → Prop), Inv X pins σ H s → t σ H Q → wpAny (model X.prog X.w) X.A (isTrue e X.env whole) (TP X pins σ Q) X.xe s
theorem PW.pt {X : Cx} {e : Expr} {t : TT} (h : PW X e t) : PT X e t := h _
noncomputable def PA (X : Cx) (es : List Expr) (t : TA) : Prop :=
  ∀ (pos : Pos) (pins : List (Addr × Obj)) (s : Shared) (σ : St) (H : Hp) (Q : List V → Hp → Prop), Inv X pins σ H s → t σ H Q → wpAny (model X.prog X.w) X.A (spliced (backTo pos (starEach es X.env))) (AP X pins σ Q) X.xe s
noncomputable def PS (X : Cx) (st : Stmt) (t : TS) : Prop :=
  ∀ (pins : List (Addr × Obj)) (s : Shared) (σ : St) (H : Hp) (D : Ends), Inv X pins σ H s → t D σ H → wpAny (model X.prog X.w) X.A (exec st X.env) (SP X pins D) X.xe s
noncomputable def PSs (X : Cx) (st : List Stmt) (t : TS) : Prop :=
  ∀ (pins : List (Addr × Obj)) (s : Shared) (σ : St) (H : Hp) (D : Ends), Inv X pins σ H s → t D σ H → wpAny (model X.prog X.w) X.A (execs st X.env) (SP X pins D) X.xe s
theorem thn {α : Type} {t : Sem α} {Q Q' : α → Shared → Prop} {M : Model} {A : Around} {E : Value → Shared → Prop} {s : Shared} (h : wpAny M A t Q E s) (hQ : ∀ a s, Q a s → Q' a s) : wpAny M A t Q' E s := wpAny_mono h hQ fun _ _ x => x
end L2
namespace L2
open PySem PySem.Spec PyProof.Rows
section
variable {X : Cx}
noncomputable def tVar (i : Nat) : TE := fun σ H Q => ∃ v, σ[i]? = some (some v) ∧ Q v H
noncomputable def tC (v : V) : TE := fun _ H Q => Q v H
theorem pe_var {i : Nat} {x : Str} {pos : Pos} (hN : X.N[i]? = some x) (hv : Vis X.env.scope x) (hd : (x == ("__debug__" : Str)) = false := by decide) (hcd : (x == ("__classdict__" : Str)) = false := by decide) : PE X (.Name x pos) (tVar i) := by
  intro pins s σ H Q I h
  obtain ⟨v, e, h⟩ := h
  obtain ⟨m, hn, hl⟩ := I.loc
  obtain ⟨u, r, l⟩ := hl i x v hN e hv
  have fin : EP X pins σ Q u s := ⟨v, H, I, r, h⟩
  rcases l with ⟨hk, hm⟩ | ⟨hk, c, hc, hcell⟩
  · exact wpAny_Name (wpAny_loadName_local I.ok.kind hk hn hm fin) hd
  · rcases hk with hk | hk
    · exact wpAny_Name (wpAny_loadName_cell I.ok.kind hk hc hcell fin) hd
    · exact wpAny_Name (wpAny_loadName_free I.ok.kind hk hc hcell fin hcd) hd
theorem pe_int {i j pos} : PE X (.Constant (.int i) j pos) (tC (.int i)) := fun _ _ _ H _ I h => wpAny_Constant_int ⟨.int i, H, I.tok _, ⟨_, rfl⟩, h⟩
theorem pe_bl {b j pos} : PE X (.Constant (.bool b) j pos) (tC (.bl b)) := fun _ _ _ H _ I h => Constant_bool ⟨.bl b, H, I, rfl, h⟩
theorem pe_non {j pos} : PE X (.Constant .none j pos) (tC .non) := fun _ _ _ H _ I h => Constant_none ⟨.non, H, I, rfl, h⟩
theorem pe_str {x j pos} : PE X (.Constant (.str x) j pos) (tC (.str x)) := fun _ _ _ H _ I h => Calls.Constant_str ⟨.str x, H, I.tok _, ⟨_, rfl⟩, h⟩
noncomputable def Gl (X : Cx) (x : Str) : Prop := X.env.kindOf x = some .globalImplicit
theorem ld_glob {E : Value → Shared → Prop} {pins : List (Addr × Obj)} {s : Shared} {σ : St} {H : Hp} {x : Str} {u : Value} {pos : Pos} {Q : Value → Shared → Prop} (I : Inv X pins σ H s) (hg : Gl X x) (hm : X.mg x = some u) (h : Q u s)
    (hd : (x == ("__debug__" : Str)) = false := by decide) : wpAny (model X.prog X.w) X.A (eval (.Name x pos) X.env) Q E s :=
  Calls.Name_function_global I.ok.kind hg (Calls.loadGlobal_global (by rw [I.ok.glob]; exact I.mod.glob.keeps I.bk) hm h) hd
theorem ld_blt {E : Value → Shared → Prop} {pins : List (Addr × Obj)} {s : Shared} {σ : St} {H : Hp} {x : Str} {u : Value} {pos : Pos} {Q : Value → Shared → Prop} (I : Inv X pins σ H s) (hg : Gl X x) (hm : X.mg x = none) (hv : bootBuiltins x = some u) (h : Q u s)
    (hn : x ≠ "__name__" := by decide) (hd : (x == ("__debug__" : Str)) = false := by decide) : wpAny (model X.prog X.w) X.A (eval (.Name x pos) X.env) Q E s := by
  obtain ⟨mb, h1, h2⟩ := I.mod.blt
  exact Calls.Name_function_global I.ok.kind hg (Calls.loadGlobal_builtin (by rw [I.ok.glob]; exact I.mod.glob.keeps I.bk) hm (by rw [I.ok.blt]; exact h1.keeps I.bk) ((h2 x hn).trans hv) h) hd
theorem pe_glob {x : Str} {v : V} {u : Value} {pos : Pos} (hg : Gl X x) (hm : X.mg x = some u) (r : RelV v u) (hd : (x == ("__debug__" : Str)) = false := by decide) : PE X (.Name x pos) (tC v) :=
  fun _ _ _ H _ I h => ld_glob I hg hm ⟨v, H, I, r, h⟩ hd
variable {a b : Expr} {ta tb : TE} {pos : Pos}
variable {tA tB' : TT} {rest : List Expr}
noncomputable def tAnd (t u : TT) : TT := fun σ H Q => t σ H fun c H1 => if c = true then u σ H1 Q else Q false H1
noncomputable def tOr (t u : TT) : TT := fun σ H Q => t σ H fun c H1 => if c = true then Q true H1 else u σ H1 Q
noncomputable def tNot (t : TT) : TT := fun σ H Q => t σ H fun c H1 => Q (!c) H1
theorem pw_and1 (ha : PT X a tA) : PW X (.BoolOp .And [a] pos) tA := by
  intro wh pins s σ H Q I h
  refine isTrue_and (thn (ha pins s σ H Q I h) fun c s1 e => ?_)
  cases c with
  | true => exact isTrue_and_nil e
  | false => exact e
theorem pw_or1 (ha : PT X a tA) : PW X (.BoolOp .Or [a] pos) tA := by
  intro wh pins s σ H Q I h
  refine isTrue_or (thn (ha pins s σ H Q I h) fun c s1 e => ?_)
  cases c with
  | false => exact isTrue_or_nil e
  | true => exact e
theorem pw_and (ha : PT X a tA) (hb : PW X (.BoolOp .And (b :: rest) pos) tB') : PW X (.BoolOp .And (a :: b :: rest) pos) (tAnd tA tB') := by
  intro wh pins s σ H Q I h
  refine isTrue_and (thn (ha pins s σ H _ I h) fun c s1 hh => ?_)
  obtain ⟨H1, I1, q1⟩ := hh
  cases c with
  | true => exact hb wh pins s1 σ H1 Q I1 q1
  | false => exact ⟨H1, I1, q1⟩
theorem pw_or (ha : PT X a tA) (hb : PW X (.BoolOp .Or (b :: rest) pos) tB') : PW X (.BoolOp .Or (a :: b :: rest) pos) (tOr tA tB') := by
  intro wh pins s σ H Q I h
  refine isTrue_or (thn (ha pins s σ H _ I h) fun c s1 hh => ?_)
  obtain ⟨H1, I1, q1⟩ := hh
  cases c with
  | true => exact ⟨H1, I1, q1⟩
  | false => exact hb wh pins s1 σ H1 Q I1 q1
theorem pt_not (ha : PT X a tA) : PT X (.UnaryOp .Not a pos) (tNot tA) := by
  intro pins s σ H Q I h
  exact isTrue_not (ha pins s σ H (fun c H1 => Q (!c) H1) I h)
theorem pe_one {op} {t : TE} (h : PE X a t) : PE X (.BoolOp op [a] pos) t := fun pins s σ H Q I hw => BoolOp_one (h pins s σ H Q I hw)
noncomputable def tIf (t : TT) (ta tb : TE) : TE := fun σ H Q => t σ H fun c H1 => if c = true then ta σ H1 Q else tb σ H1 Q
theorem pe_ifExp {c : Expr} (hc : PT X c tA) (ha : PE X a ta) (hb : PE X b tb) : PE X (.IfExp c a b pos) (tIf tA ta tb) := by
  intro pins s σ H Q I h
  refine wpAny_IfExp (thn (hc pins s σ H _ I h) fun d s1 hh => ?_)
  obtain ⟨H1, I1, q1⟩ := hh
  cases d with
  | true => exact ha pins s1 σ H1 Q I1 q1
  | false => exact hb pins s1 σ H1 Q I1 q1
end
end L2
namespace L2
open PySem PySem.Spec PyProof.Rows
noncomputable def SqL (K : PySem.W.Frag) (H : Hp) (a : Addr) (xs : List V) : Prop :=
  Rd H a (.lst xs) ∨
    ∃ (o : Obj) (its : Array Value) (n : Nat), K.lookup a = some o ∧ o.cls = .type "list" ∧ o.dict = none ∧ o.data = .seq its n ∧ its.size ≤ sizeLine ∧ Vals xs its.toList
noncomputable def SqT (K : PySem.W.Frag) (H : Hp) (a : Addr) (xs : List V) : Prop :=
  Rd H a (.tup xs) ∨
    ∃ (o : Obj) (its : Array Value) (n : Nat), K.lookup a = some o ∧ o.cls = .type "tuple" ∧ o.data = .seq its n ∧ its.size ≤ sizeLine ∧ Vals xs its.toList
noncomputable def absV : Value → Option V
  | .none => some .non
  | .bool b => some (.bl b)
  | .int i _ => some (.int i)
  | .str x _ => some (.str x)
  | .bytes b _ => some (.byt b)
  | .float b _ => some (.flt b)
  | .ref a => some (.ref a)
  | .type n => some (.ty n)
  | _ => none
theorem RelV.abs {x : V} {u : Value} (r : RelV x u) : absV u = some x := by
  cases x with
  | non => cases r; rfl
  | bl _ => cases r; rfl
  | int _ => obtain ⟨t, rfl⟩ := r; rfl
  | str _ => obtain ⟨t, rfl⟩ := r; rfl
  | byt _ => obtain ⟨t, rfl⟩ := r; rfl
  | flt _ => obtain ⟨t, rfl⟩ := r; rfl
  | ref _ => cases r; rfl
  | ty _ => cases r; rfl
theorem RelV.inj {x y : V} {u : Value} (r : RelV x u) (q : RelV y u) : x = y := Option.some.inj (r.abs.symm.trans q.abs)
theorem Vals.inj : ∀ {xs ys : List V} {us : List Value}, Vals xs us → Vals ys us → xs = ys := by
  intro xs ys us h
  induction h generalizing ys with
  | nil => intro g; cases g; rfl
  | cons r t ih =>
    intro g
    cases g with
    | cons r' t' => rw [r.inj r', ih t']
section
variable {X : Cx} {pins : List (Addr × Obj)} {σ : St} {H : Hp} {s : Shared} {a : Addr} {xs ys : List V}
theorem SqL.of {K : PySem.W.Frag} (h : H a = some (.lst xs)) : SqL K H a xs := .inl (.inl h)
theorem SqT.of {K : PySem.W.Frag} (h : H a = some (.tup xs)) : SqT K H a xs := .inl (.inl h)
theorem Inv.list (I : Inv X pins σ H s) (h : SqL X.K H a xs) : ∃ its : List Value, Vals xs its ∧ PlainL s.heap a its.toArray ∧ xs.length ≤ sizeLine := by
  rcases h with h | ⟨o, its, n, hk, hc, hd, hs, hz, r⟩
  · obtain ⟨z, its, n, r, e⟩ := h.ok I.hok
    exact ⟨its, r, ⟨_, n, e, rfl, rfl, rfl⟩, z⟩
  · refine ⟨its.toList, r, ⟨o, n, I.kIn a o hk, hc, hd, by simpa using hs⟩, ?_⟩
    have e := r.length
    simp only [Array.length_toList] at e
    lia
theorem Inv.tuple (I : Inv X pins σ H s) (h : SqT X.K H a xs) : ∃ its : List Value, Vals xs its ∧ IsTup s.heap a its.toArray ∧ xs.length ≤ sizeLine := by
  rcases h with h | ⟨o, its, n, hk, hc, hs, hz, r⟩
  · obtain ⟨z, its, r, p⟩ := h.ok I.hok
    exact ⟨its, r, p, z⟩
  · refine ⟨its.toList, r, ⟨o, I.kIn a o hk, hc, n, by simpa using hs⟩, ?_⟩
    have e := r.length
    simp only [Array.length_toList] at e
    lia
theorem Inv.list_inj (I : Inv X pins σ H s) (h : SqL X.K H a xs) (h' : SqL X.K H a ys) : xs = ys := by
  obtain ⟨its, r, ⟨o, n, e, _, _, d⟩, _⟩ := I.list h
  obtain ⟨its', r', ⟨o', n', e', _, _, d'⟩, _⟩ := I.list h'
  rw [e] at e'; cases e'
  rw [d] at d'
  injection d' with d1 _
  have : its = its' := by simpa using congrArg Array.toList d1
  subst this
  exact r.inj r'
theorem Inv.tuple_inj (I : Inv X pins σ H s) (h : SqT X.K H a xs) (h' : SqT X.K H a ys) : xs = ys := by
  obtain ⟨its, r, ⟨o, e, _, n, d⟩, _⟩ := I.tuple h
  obtain ⟨its', r', ⟨o', e', _, n', d'⟩, _⟩ := I.tuple h'
  rw [e] at e'; cases e'
  rw [d] at d'
  injection d' with d1 _
  have : its = its' := by simpa using congrArg Array.toList d1
  subst this
  exact r.inj r'
end
noncomputable abbrev Cx.wish (X : Cx) (E : Value → Shared → Prop) : Cx := { X with xe := E }
noncomputable abbrev Cx.nox (X : Cx) : Cx := X.wish fun _ _ => False
theorem Cx.Ok.wish {X : Cx} (ok : X.Ok) (E : Value → Shared → Prop) : (X.wish E).Ok :=
  ⟨ok.mod, ok.kind, ok.glob, ok.blt, ok.above, ok.inj, ok.has, ok.cab, ok.hd, ok.frames, ok.stk, ok.exf, ok.bs, ok.bsz, ok.noex, ok.exfs, ok.funs, ok.frf⟩
theorem Cx.Ok.unwish {X : Cx} {E : Value → Shared → Prop} (ok : (X.wish E).Ok) : X.Ok :=
  ⟨ok.mod, ok.kind, ok.glob, ok.blt, ok.above, ok.inj, ok.has, ok.cab, ok.hd, ok.frames, ok.stk, ok.exf, ok.bs, ok.bsz, ok.noex, ok.exfs, ok.funs, ok.frf⟩
section
variable {X : Cx} {pins : List (Addr × Obj)} {σ : St} {H : Hp} {s : Shared} {E : Value → Shared → Prop}
theorem Inv.wish (I : Inv X pins σ H s) (E : Value → Shared → Prop) : Inv (X.wish E) pins σ H s := ⟨I.ok.wish E, I.os, I.bare, I.base, I.loc, I.cell, I.free, I.freeC, I.pin, I.hok, I.len⟩
theorem Inv.unwish (I : Inv (X.wish E) pins σ H s) : Inv X pins σ H s := ⟨I.ok.unwish, I.os, I.bare, I.base, I.loc, I.cell, I.free, I.freeC, I.pin, I.hok, I.len⟩
theorem SP.unwish {D : Ends} {f : Flow} {s' : Shared} (h : SP (X.wish E) pins D f s') : SP X pins D f s' := by
  cases f with
  | next => obtain ⟨σ', H', I, q⟩ := h; exact ⟨σ', H', I.unwish, q⟩
  | brk => obtain ⟨σ', H', I, q⟩ := h; exact ⟨σ', H', I.unwish, q⟩
  | cont => obtain ⟨σ', H', I, q⟩ := h; exact ⟨σ', H', I.unwish, q⟩
  | ret u => obtain ⟨v, σ', H', I, r, q⟩ := h; exact ⟨v, σ', H', I.unwish, r, q⟩
theorem PE.nox {e : Expr} {t : TE} (h : PE X.nox e t) : PE X e t := fun pins s σ H Q I hw =>
  wpAny_mono (h pins s σ H Q (I.wish _) hw) (fun _ _ ⟨v, H', I', r, q⟩ => ⟨v, H', I'.unwish, r, q⟩) fun _ _ z => False.elim z
theorem PT.nox {e : Expr} {t : TT} (h : PT X.nox e t) : PT X e t := fun pins s σ H Q I hw =>
  wpAny_mono (h pins s σ H Q (I.wish _) hw) (fun _ _ ⟨H', I', q⟩ => ⟨H', I'.unwish, q⟩) fun _ _ z => False.elim z
theorem PSs.nox {st : List Stmt} {t : TS} (h : PSs X.nox st t) : PSs X st t := fun pins s σ H D I hw =>
  wpAny_mono (h pins s σ H D (I.wish _) hw) (fun _ _ q => q.unwish) fun _ _ z => False.elim z
end
section
variable {X : Cx} {st : Stmt} {rest : List Stmt} {t u : TS} {e : Expr} {te : TE} {pos : Pos}
noncomputable def tNext : TS := fun D σ H => D.nx σ H
noncomputable def tSeq (t u : TS) : TS := fun D σ H => t { D with nx := u D } σ H
theorem pss_nil : PSs X [] tNext := fun _ _ σ H _ I h => wpAny_execs_nil ⟨σ, H, I, h⟩
theorem pss_cons (h1 : PS X st t) (h2 : PSs X rest u) : PSs X (st :: rest) (tSeq t u) := by
  intro pins s σ H D I h
  refine wpAny_execs_cons (thn (h1 pins s σ H { D with nx := u D } I h) fun f s1 q => ?_)
  cases f with
  | next =>
    obtain ⟨σ', H', I', q⟩ := q
    exact h2 pins s1 σ' H' D I' q
  | ret v => exact q
  | brk => exact q
  | cont => exact q
theorem pss_one (h1 : PS X st t) : PSs X [st] t := by
  intro pins s σ H D I h
  refine wpAny_execs_cons (thn (h1 pins s σ H D I h) fun f s1 q => ?_)
  cases f with
  | next => exact wpAny_execs_nil q
  | ret v => exact q
  | brk => exact q
  | cont => exact q
theorem Inv.quiet {pins : List (Addr × Obj)} {σ : St} {H : Hp} {s : Shared} (I : Inv X pins σ H s) : interactive X.env = false := by simp [interactive, I.ok.kind]
noncomputable def tDrop (te : TE) : TS := fun D σ H => te σ H fun _ H1 => D.nx σ H1
theorem ps_expr (he : PE X e te) (hs : swapsWith e none pos.line X.env = pure false := by rfl) : PS X (.Expr e pos) (tDrop te) := by
  intro pins s σ H D I h
  exact wpAny_Expr_any (thn (he pins s σ H _ I h) fun v s1 ⟨x, H1, I1, r1, q1⟩ => ⟨σ, H1, I1, q1⟩) I.quiet hs
noncomputable def tRet (te : TE) : TS := fun D σ H => te σ H D.rt
theorem ps_ret (he : PE X e te) : PS X (.Return (some e) pos) (tRet te) := by
  intro pins s σ H D I h
  exact wpAny_Return_some (thn (he pins s σ H _ I h) fun v s1 ⟨x, H1, I1, r1, q1⟩ => ⟨x, σ, H1, I1, r1, q1⟩)
noncomputable def tIfS (c : TT) (t u : TS) : TS := fun D σ H => c σ H fun b H1 => if b = true then t D σ H1 else u D σ H1
theorem ps_if {c : Expr} {a b : List Stmt} {tc : TT} (hc : PT X c tc) (ha : PSs X a t) (hb : PSs X b u) : PS X (.If c a b pos) (tIfS tc t u) := by
  intro pins s σ H D I h
  refine wpAny_If (thn (hc pins s σ H _ I h) fun d s1 hh => ?_)
  obtain ⟨H1, I1, q1⟩ := hh
  cases d with
  | true => exact ha pins s1 σ H1 D I1 q1
  | false => exact hb pins s1 σ H1 D I1 q1
end
noncomputable abbrev TG := V → St → Hp → (St → Hp → Prop) → Prop
noncomputable abbrev TGs := List V → St → Hp → (St → Hp → Prop) → Prop
noncomputable def PG (X : Cx) (target : Expr) (t : TG) : Prop :=
  ∀ (pins : List (Addr × Obj)) (s : Shared) (σ : St) (H : Hp) (v : V) (u : Value) (Q : St → Hp → Prop), Inv X pins σ H s → RelV v u → t v σ H Q →
    wpAny (model X.prog X.w) X.A (assign target X.env u) (fun _ s' => ∃ σ' H', Inv X pins σ' H' s' ∧ Q σ' H') X.xe s
noncomputable def PGs (X : Cx) (ts : List Expr) (t : TGs) : Prop :=
  ∀ (pins : List (Addr × Obj)) (s : Shared) (σ : St) (H : Hp) (vs : List V) (us : List Value) (Q : St → Hp → Prop), Inv X pins σ H s → Vals vs us → t vs σ H Q →
    wpAny (model X.prog X.w) X.A (assignInOrder ((assignEach ts X.env).map (·.2)) us) (fun _ s' => ∃ σ' H', Inv X pins σ' H' s' ∧ Q σ' H') X.xe s
noncomputable abbrev TSet := V → V → V → Hp → (Hp → Prop) → Prop
noncomputable def PSet (X : Cx) (t : TSet) : Prop :=
  ∀ (pins : List (Addr × Obj)) (s : Shared) (σ : St) (H : Hp) (o i v : V) (ov iv u : Value) (Q : Hp → Prop), Inv X pins σ H s → RelV o ov → RelV i iv → RelV v u → t o i v H Q →
    wpAny (model X.prog X.w) X.A (setItem ov iv u) (fun _ s' => ∃ H', Inv X pins σ H' s' ∧ Q H') X.xe s
noncomputable abbrev TIp := V → V → Hp → VK → Prop
noncomputable def PIp (X : Cx) (op : Operator) (t : TIp) : Prop :=
  ∀ (pins : List (Addr × Obj)) (s : Shared) (σ : St) (H : Hp) (x y : V) (v u : Value) (Q : VK), Inv X pins σ H s → RelV x v → RelV y u → t x y H Q →
    wpAny (model X.prog X.w) X.A (inplaceOp op v u) (EP X pins σ Q) X.xe s
section
variable {X : Cx} {pos : Pos}
noncomputable def gName (i : Nat) : TG := fun v σ H Q => Q (σ.set i (some v)) H
theorem pg_name {i : Nat} {x : Str} (hN : X.N.Nodup) (hi : X.N[i]? = some x) (hx : Loc X.env.scope x) (hf : X.fn x = true ∨ X.env.scope.names.lookup x = some .local := by first | exact .inl rfl | exact .inr rfl | assumption) : PG X (.Name x pos) (gName i) := by
  intro pins s σ H v u Q I r h
  exact wpAny_assign_Name (store_ok I hN hi hx r (fun s' I' => ⟨_, H, I', h⟩) hf)
noncomputable def gNil : TGs := fun vs σ H Q => vs = [] ∧ Q σ H
noncomputable def gCons (t : TG) (u : TGs) : TGs := fun vs σ H Q => ∃ v r, vs = v :: r ∧ t v σ H fun σ' H' => u r σ' H' Q
theorem pgs_nil : PGs X [] gNil := by
  intro pins s σ H vs us Q I r h
  obtain ⟨e, h⟩ := h
  subst e
  cases r
  exact assignInOrder_nil ⟨σ, H, I, h⟩
theorem pgs_cons {e : Expr} {es : List Expr} {t : TG} {u : TGs} (h1 : PG X e t) (h2 : PGs X es u)
    (hs : (assignEach (e :: es) X.env).map (·.2) = assign e X.env :: (assignEach es X.env).map (·.2) := by rfl) : PGs X (e :: es) (gCons t u) := by
  intro pins s σ H vs us Q I r h
  obtain ⟨v, vr, e1, h⟩ := h
  subst e1
  cases r with
  | cons r rr =>
    rw [hs]
    refine assignInOrder_cons (thn (h1 pins s σ H _ _ _ I r h) fun _ s1 hh => ?_)
    obtain ⟨σ1, H1, I1, q1⟩ := hh
    exact h2 pins s1 σ1 H1 _ _ Q I1 rr q1
noncomputable def gTup (K : PySem.W.Frag) (n : Nat) (t : TGs) : TG := fun v σ H Q => ∃ a xs, v = .ref a ∧ SqT K H a xs ∧ xs.length = n ∧ t xs σ H Q
theorem pg_tup {es : List Expr} {k : Nat} {t : TGs} {n : Nat} (hc : X.calm = true) (h : PGs X es t)
    (hn : (assignEach es X.env).length = n := by rfl) (hst : (assignEach es X.env).findIdx? (·.1) = none := by rfl) : PG X (.Tuple es k pos) (gTup X.K n t) := by
  intro pins s σ H v u Q I r hw
  obtain ⟨a, xs, e1, hq, hl, hw⟩ := hw
  subst e1
  cases r
  obtain ⟨its, rv, ht, hz⟩ := I.tuple hq
  refine assign_Tuple_tuple (I.ok.hd hc) ht (by simp [hn, ← hl, rv.length]) hst fun h' hx => ?_
  have I1 : Inv X pins σ H { s with heap := h' } := I.kept (t' := s.toks) fun b o e => hx b o (Nat.ne_of_lt (Heap.lt_size e)) e
  exact h pins _ σ H xs _ Q I1 (by simpa using rv) hw
noncomputable def gSub (to ti : TE) (t : TSet) : TG := fun v σ H Q => to σ H fun o H1 => ti σ H1 fun i H2 => t o i v H2 fun H3 => Q σ H3
theorem pg_sub {o i : Expr} {to ti : TE} {t : TSet} (ho : PE X o to) (hi : PE X i ti) (hs : PSet X t)
    (ha : ∀ v, assign (.Subscript o i pos) X.env v = (do
      let ov ← holding [v] (eval o X.env)
      let iv ← holding [v, ov] (eval i X.env)
      standAt pos
      holding [v, ov, iv] (setItem ov iv v)
      release [v, ov, iv] []) := by intro _; rfl) : PG X (.Subscript o i pos) (gSub to ti t) := by
  intro pins s σ H v u Q I r h
  rw [ha]
  refine wpAny_bind (wpAny_holding (thn (ho pins s σ H _ I h) fun ov s1 hh => ?_))
  obtain ⟨x, H1, I1, r1, q1⟩ := hh
  refine wpAny_bind (wpAny_holding (thn (hi pins s1 σ H1 _ I1 q1) fun iv s2 hh => ?_))
  obtain ⟨y, H2, I2, r2, q2⟩ := hh
  refine wpAny_bind (wpAny_standAt (wpAny_bind (wpAny_holding (thn (hs pins s2 σ H2 x y v ov iv u _ I2 r1 r2 r q2) fun _ s3 hh => ?_))))
  obtain ⟨H3, I3, q3⟩ := hh
  exact wpAny_release ⟨σ, H3, I3, q3⟩
noncomputable def tAsg (te : TE) (g : TG) : TS := fun D σ H => te σ H fun x H1 => g x σ H1 D.nx
theorem ps_asg {tg e : Expr} {te : TE} {g : TG} (he : PE X e te) (hg : PG X tg g) (hs : swapsWithSole [tg] e pos.line X.env = pure false := by rfl) (hw : swappedStores [tg] e X.env = pure none := by rfl)
    (h1 : (assignEach [tg] X.env).map (·.2) = [assign tg X.env] := by rfl) : PS X (.Assign [tg] e pos) (tAsg te g) := by
  intro pins s σ H D I h
  refine wpAny_Assign_stores (thn (he pins s σ H _ I h) fun v s1 ⟨x, H1, I1, r1, q1⟩ => ?_) hs hw
  rw [h1]
  exact thn (hg pins s1 σ H1 x v _ I1 r1 q1) fun _ s2 q => q
theorem ps_set {i : Nat} {x : Str} {e : Expr} {te : TE} {pos' : Pos} (hN : X.N.Nodup) (hi : X.N[i]? = some x) (hx : Loc X.env.scope x) (he : PE X e te) (hs : swapsWith e (some (.Name x pos')) pos.line X.env = pure false := by rfl) (hf : X.fn x = true ∨ X.env.scope.names.lookup x = some .local := by first | exact .inl rfl | exact .inr rfl | assumption) :
    PS X (.Assign [.Name x pos'] e pos) (tAsg te (gName i)) := by
  intro pins s σ H D I h
  refine wpAny_Assign_Name (thn (he pins s σ H _ I h) fun v s1 ⟨y, H1, I1, r1, q1⟩ => ?_) hs
  exact store_ok I1 hN hi hx r1 (fun s2 I2 => ⟨_, H1, I2, q1⟩) hf
end
section
variable {X : Cx} {pos : Pos}
noncomputable def tWhile (c : TT) (tb : TS) : TS := fun D σ H => ∃ W : Nat → St → Hp → Prop, (∃ m, W m σ H) ∧ ∀ m σ H, W m σ H →
  c σ H fun b H1 => if b = true then ∃ N : St → Hp → Prop, (∀ σ' H', N σ' H' → ∃ m', m' < m ∧ W m' σ' H') ∧ tb { D with nx := N, ct := N, bk := D.nx } σ H1 else D.nx σ H1
theorem ps_while {c : Expr} {body : List Stmt} {tc : TT} {tb : TS} (hp : PassesOwn (model X.prog X.w) X.A X.env X.xe) (hc : PT X c tc) (hb : PSs X body tb) : PS X (.While c body [] pos) (tWhile tc tb) := by
  intro pins s σ H D I h
  obtain ⟨W, ⟨m0, w0⟩, turn⟩ := h
  refine wpAny_While (codeAny_whileLoop (fun n s' => ∃ σ' H', Inv X pins σ' H' s' ∧ W n σ' H') ?_ m0 ⟨σ, H, I, w0⟩)
  rintro n s1 ⟨σ1, H1, I1, w1⟩
  refine wpAny_passesOwn hp (thn (hc pins s1 σ1 H1 _ I1 (turn n σ1 H1 w1)) fun b s2 hh => ?_)
  obtain ⟨H2, I2, q2⟩ := hh
  cases b with
  | true =>
    obtain ⟨N, hN, q2⟩ := q2
    rw [if_pos rfl]
    refine wpAny_passesOwn hp (thn (hb pins s2 σ1 H2 _ I2 q2) fun f s3 q3 => ?_)
    cases f with
    | next =>
      obtain ⟨σ3, H3, I3, n3⟩ := q3
      obtain ⟨m', hm, w3⟩ := hN σ3 H3 n3
      exact ⟨m', hm, σ3, H3, I3, w3⟩
    | cont =>
      obtain ⟨σ3, H3, I3, n3⟩ := q3
      obtain ⟨m', hm, w3⟩ := hN σ3 H3 n3
      exact ⟨m', hm, σ3, H3, I3, w3⟩
    | brk => exact q3
    | ret v => exact q3
  | false =>
    rw [if_neg Bool.false_ne_true]
    exact wpAny_execs_nil ⟨σ1, H2, I2, q2⟩
end
structure It where
  go : Nat → Hp → Prop
  yld : Nat → Hp → V → Hp → Prop
  stop : Nat → Hp → Prop
noncomputable def FpOk (X : Cx) (pins : List (Addr × Obj)) (H : Hp) (b : Addr) : Prop :=
  H b = none ∧ b ≠ X.env.locals ∧ b ∉ X.fs ∧ (b ∈ X.ex ∨ X.s₀.heap.objs.size ≤ b) ∧ (∀ x c, X.env.cells.lookup x = some c → c ≠ b) ∧ ∀ p ∈ X.pn ++ pins, p.1 ≠ b
theorem Inv.fpOk {X : Cx} {pins : List (Addr × Obj)} {σ : St} {H H' : Hp} {s : Shared} {b : Addr} (I : Inv X pins σ H s) (hb : s.heap.objs.size ≤ b) (hn : H' b = none) : FpOk X pins H' b := by
  refine ⟨hn, Nat.ne_of_gt (Nat.lt_of_lt_of_le I.lt hb), I.nofs hb, .inr (Nat.le_trans I.sz hb), fun x c e z => ?_, fun p hp z => ?_⟩
  · obtain ⟨v, q⟩ := I.cell x c e
    exact absurd (Nat.lt_of_lt_of_le q.lt (by rw [z]; exact hb)) (Nat.lt_irrefl _)
  · exact absurd (Nat.lt_of_lt_of_le (Heap.lt_size (I.pin p hp).1) (by rw [z]; exact hb)) (Nat.lt_irrefl _)
structure Turn (P : Program) (w : World) (K : PySem.W.Frag) (tg : Expr) (J : It) (fp : List Addr) (it : Addr) (tn : Nat → Heap → Prop) : Prop where
  mem : it ∈ fp
  obj : ∀ i h, tn i h → ∀ b ∈ fp, ∃ o, h.get? b = some o ∧ ∀ v, o.data ≠ .cell v
  keep : ∀ i h h', tn i h → (∀ b ∈ fp, ∀ o, h.get? b = some o → h'.get? b = some o) → tn i h'
  item : ∀ (X : Cx), X.prog = P → X.w = w → X.K = K → X.calm = true → ∀ (i : Nat) (pins : List (Addr × Obj)) (s : Shared) (σ : St) (H : Hp) (E : Value → Shared → Prop), Inv X pins σ H s → (∀ b ∈ fp, FpOk X pins H b) → tn i s.heap → J.go i H →
    wpAny (model P w) X.A (pyNext (.ref it)) (fun r s1 => ∃ u, r = some u ∧
      wpAny (model P w) X.A (letOwnedTupleGo tg (.ref it) u) (fun _ s2 => ∃ x H', Inv X pins σ H' s2 ∧ RelV x u ∧ J.yld i H x H' ∧ tn (i + 1) s2.heap ∧ ∀ b ∈ fp, H' b = none) E s1) E s
  done : ∀ (X : Cx), X.prog = P → X.w = w → X.K = K → X.calm = true → ∀ (i : Nat) (pins : List (Addr × Obj)) (s : Shared) (σ : St) (H : Hp) (E : Value → Shared → Prop), Inv X pins σ H s → (∀ b ∈ fp, FpOk X pins H b) → tn i s.heap → J.stop i H →
    wpAny (model P w) X.A (pyNext (.ref it)) (fun r s1 => r = none ∧ Inv X pins σ H s1) E s
  self : ∀ (A : Around) (i : Nat) (s : Shared) (Q : Value → Shared → Prop) (E : Value → Shared → Prop), tn i s.heap → Q (.ref it) s → wpAny (model P w) A (pyIter (.ref it)) Q E s
noncomputable abbrev TI := St → Hp → (It → Hp → Prop) → Prop
noncomputable def PIE (X : Cx) (pins : List (Addr × Obj)) (σ : St) (tg : Expr) (R : It → Hp → Prop) (itv : Value) (s2 : Shared) : Prop :=
  ∃ (it : Addr) (fp : List Addr) (tn : Nat → Heap → Prop) (J : It) (H' : Hp), itv = .ref it ∧ Inv X pins σ H' s2 ∧ Turn X.prog X.w X.K tg J fp it tn ∧ tn 0 s2.heap ∧ (∀ b ∈ fp, FpOk X pins H' b) ∧ R J H'
noncomputable def PI (X : Cx) (tg iter : Expr) (wi : TI) : Prop :=
  ∀ (pins : List (Addr × Obj)) (s : Shared) (σ : St) (H : Hp) (R : It → Hp → Prop), Inv X pins σ H s → wi σ H R →
    wpAny (model X.prog X.w) X.A (eval iter X.env) (fun v s1 => wpAny (model X.prog X.w) X.A (pyIter v) (PIE X pins σ tg R) X.xe s1) X.xe s
theorem go_of {M : Model} {A : Around} {E : Value → Shared → Prop} {s : Shared} {tg : Expr} {it : Addr} {u : Value} {o : Obj} {n : String} {vs : Array Value} {Q : Unit → Shared → Prop} (ho : s.heap.get? it = some o) (hc : o.cls = .type n) (hd : o.data = .fields vs)
    (hn : ["enumerate", "zip", "dict_itemiterator", "dict_reverseitemiterator", "odict_iterator", "itertools.zip_longest", "itertools.pairwise"].contains n = false) (hQ : Q () s) : wpAny M A (letOwnedTupleGo tg (.ref it) u) Q E s := by
  unfold letOwnedTupleGo
  cases tg <;> first
    | exact wpAny_pure hQ
    | (cases u <;> first
        | exact wpAny_pure hQ
        | (refine wpAny_bind (wpAny_load ho ?_)
           rw [hc, hd]
           show wpAny M A (if (["enumerate", "zip", "dict_itemiterator", "dict_reverseitemiterator", "odict_iterator", "itertools.zip_longest", "itertools.pairwise"].contains n && vs[0]? == some (rawInt _)) = true then _ else _) Q E s
           rw [if_neg (by intro h; rw [hn, Bool.false_and] at h; cases h)]
           exact wpAny_pure hQ))
noncomputable def Itl (K : PySem.W.Frag) (a : Addr) : It :=
  ⟨fun i H => ∃ xs x, SqL K H a xs ∧ xs[i]? = some x, fun i H x H' => H' = H ∧ ∀ xs, SqL K H a xs → xs[i]? = some x, fun i H => ∃ xs, SqL K H a xs ∧ xs.length ≤ i⟩
noncomputable def Itt (K : PySem.W.Frag) (a : Addr) : It :=
  ⟨fun i H => ∃ xs x, SqT K H a xs ∧ xs[i]? = some x, fun i H x H' => H' = H ∧ ∀ xs, SqT K H a xs → xs[i]? = some x, fun i H => ∃ xs, SqT K H a xs ∧ xs.length ≤ i⟩
noncomputable def Itr (lo : Int) (n : Nat) : It := ⟨fun i _ => i < n, fun i H x H' => H' = H ∧ x = .int (lo + i), fun i _ => n ≤ i⟩
theorem turn_list {P : Program} {w : World} {K : PySem.W.Frag} {tg : Expr} (a it : Addr) : Turn P w K tg (Itl K a) [it] it (fun i h => h.IsListIter it a i) where
  mem := by simp
  obj := fun i h st b hb => by
    have e : b = it := by simpa using hb
    subst e
    obtain ⟨o, e, c, d⟩ := st
    exact ⟨o, e, fun v z => by rw [d] at z; cases z⟩
  keep := fun i h h' st k => st.at fun o e => k it (by simp) o e
  item := by
    intro X hP hw hK hc i pins s σ H E I hf st hg
    subst hP hw hK
    obtain ⟨xs, x, hq, hx⟩ := hg
    obtain ⟨its, rv, p, hz⟩ := I.list hq
    obtain ⟨u, hu, ru⟩ := rv.get hx
    obtain ⟨f0, f1, f2, f3, f4, f5⟩ := hf it (by simp)
    refine wpAny_pyNext_list_item st p.isList (x := u) (by simpa using hu) fun h' st' sb => ?_
    have I1 : Inv X pins σ H { s with heap := h' } := I.turned (t' := s.toks) (fun b o hb e => (sb.2 b hb).trans e) f0 f1 f3 f4 f5
    obtain ⟨o, e, c, d⟩ := id st'
    exact ⟨u, rfl, go_of (s := { s with heap := h' }) e c d (by decide) ⟨x, H, I1, ru, ⟨rfl, fun ys hy => by rw [I.list_inj hy hq]; exact hx⟩, st', fun b hb => (hf b hb).1⟩⟩
  done := by
    intro X hP hw hK hc i pins s σ H E I hf st hg
    subst hP hw hK
    obtain ⟨xs, hq, hx⟩ := hg
    obtain ⟨its, rv, p, hz⟩ := I.list hq
    obtain ⟨f0, f1, f2, f3, f4, f5⟩ := hf it (by simp)
    have hl := rv.length
    exact wpAny_pyNext_list_end (I.ok.hd hc) st p.isList (by simp; lia) fun h' eb => ⟨rfl, I.turned (t' := s.toks) (fun b o hb e => eb b o hb e) f0 f1 f3 f4 f5⟩
  self := fun _ _ _ _ _ st h => wpAny_pyIter_listiter st h
theorem turn_tuple {P : Program} {w : World} {K : PySem.W.Frag} {tg : Expr} (a it : Addr) : Turn P w K tg (Itt K a) [it] it (fun i h => h.IsTupleIter it a i) where
  mem := by simp
  obj := fun i h st b hb => by
    have e : b = it := by simpa using hb
    subst e
    obtain ⟨o, e, c, d⟩ := st
    exact ⟨o, e, fun v z => by rw [d] at z; cases z⟩
  keep := fun i h h' st k => st.at fun o e => k it (by simp) o e
  item := by
    intro X hP hw hK hc i pins s σ H E I hf st hg
    subst hP hw hK
    obtain ⟨xs, x, hq, hx⟩ := hg
    obtain ⟨its, rv, p, hz⟩ := I.tuple hq
    obtain ⟨u, hu, ru⟩ := rv.get hx
    obtain ⟨f0, f1, f2, f3, f4, f5⟩ := hf it (by simp)
    refine wpAny_pyNext_tuple_item st (show s.heap.IsTuple a its.toArray from p) (x := u) (by simpa using hu) fun h' st' sb => ?_
    have I1 : Inv X pins σ H { s with heap := h' } := I.turned (t' := s.toks) (fun b o hb e => (sb.2 b hb).trans e) f0 f1 f3 f4 f5
    obtain ⟨o, e, c, d⟩ := id st'
    exact ⟨u, rfl, go_of (s := { s with heap := h' }) e c d (by decide) ⟨x, H, I1, ru, ⟨rfl, fun ys hy => by rw [I.tuple_inj hy hq]; exact hx⟩, st', fun b hb => (hf b hb).1⟩⟩
  done := by
    intro X hP hw hK hc i pins s σ H E I hf st hg
    subst hP hw hK
    obtain ⟨xs, hq, hx⟩ := hg
    obtain ⟨its, rv, p, hz⟩ := I.tuple hq
    obtain ⟨f0, f1, f2, f3, f4, f5⟩ := hf it (by simp)
    have hl := rv.length
    exact wpAny_pyNext_tuple_end (I.ok.hd hc) st (show s.heap.IsTuple a its.toArray from p) (by simp; lia) fun h' eb => ⟨rfl, I.turned (t' := s.toks) (fun b o hb e => eb b o hb e) f0 f1 f3 f4 f5⟩
  self := fun _ _ _ _ _ st h => wpAny_pyIter_tupleiter st h
theorem turn_range {P : Program} {w : World} {K : PySem.W.Frag} {tg : Expr} (it : Addr) (lo : Int) (n : Nat) : Turn P w K tg (Itr lo n) [it] it (fun i h => IsRangeIter h it (lo + (i : Nat) * 1) ((n : Int) - (i : Nat)) 1) where
  mem := by simp
  obj := fun i h st b hb => by
    have e : b = it := by simpa using hb
    subst e
    exact ⟨_, st, fun v z => by
      have z' : Data.fields _ = Data.cell v := z
      cases z'⟩
  keep := fun i h h' st k => k it (by simp) _ st
  item := by
    intro X hP hw hK hc i pins s σ H E I hf st hg
    subst hP hw hK
    obtain ⟨f0, f1, f2, f3, f4, f5⟩ := hf it (by simp)
    have W := Walks.range (prog := X.prog) (w := X.w) (I.ok.hd hc) it lo 1 n
    refine W.item i s _ _ hg st fun v h' tk hv st' kk => ?_
    obtain ⟨t, rfl⟩ := hv
    have I1 : Inv X pins σ H { s with heap := h', toks := tk } := I.turned (fun b o hb e => kk b o (by simpa using hb) e) f0 f1 f3 f4 f5
    refine ⟨_, rfl, go_of (s := { s with heap := h', toks := tk }) (n := "range_iterator") st' rfl rfl (by decide) ⟨.int (lo + i), H, I1, ⟨t, ?_⟩, ⟨rfl, rfl⟩, st', fun b hb => (hf b hb).1⟩⟩
    rw [Int.mul_one]
  done := by
    intro X hP hw hK hc i pins s σ H E I hf st hg
    subst hP hw hK
    obtain ⟨f0, f1, f2, f3, f4, f5⟩ := hf it (by simp)
    exact wpAny_pyNext_range_end (I.ok.hd hc) st (by have : n ≤ i := hg; lia) fun h' eb => ⟨rfl, I.turned (t' := s.toks) (fun b o hb e => eb b o hb e) f0 f1 f3 f4 f5⟩
  self := fun _ _ _ _ _ st h => wpAny_pyIter_rangeiter st h
end L2
namespace L2
open PySem PySem.Spec PyProof.Rows
section
variable {X : Cx} {tg : Expr}
theorem range_it {pins : List (Addr × Obj)} {σ : St} {H : Hp} {s : Shared} {R : It → Hp → Prop} {E : Value → Shared → Prop} {lo hi : Int} {t u v : Tok} {tk : Nat} (I : Inv X pins σ H s) (h1 : -(2 ^ 62) ≤ lo) (h2 : lo < 2 ^ 62) (h3 : -(2 ^ 62) ≤ hi) (h4 : hi < 2 ^ 62)
    (q : R (Itr lo (hi - lo).toNat) H) : wpAny (model X.prog X.w) X.A (pyIter (.ref s.heap.objs.size)) (PIE X pins σ tg R) E { s with heap := s.heap.push { cls := .type "range", data := .fields #[.int lo t, .int hi u, .int 1 v] }, toks := tk } := by
  refine wpAny_pyIter_range (IsRange.new ..) (small_one h1 h2 h3 h4) ?_
  have I1 : Inv X pins σ H { s with heap := s.heap.push { cls := .type "range", data := .fields #[.int lo t, .int hi u, .int 1 v] }, toks := tk } := I.kept fun b o e => Heap.get?_push_of_some _ e
  refine ⟨(s.heap.push { cls := .type "range", data := .fields #[.int lo t, .int hi u, .int 1 v] }).objs.size, [(s.heap.push { cls := .type "range", data := .fields #[.int lo t, .int hi u, .int 1 v] }).objs.size], _, _, H, rfl,
    I1.kept (t' := tk) fun b o e => Heap.get?_push_of_some _ e, turn_range _ lo (hi - lo).toNat, ?_, fun b hb => ?_, q⟩
  · have e1 : lo + ((0 : Nat) : Int) * 1 = lo := by simp
    have e2 : (((hi - lo).toNat : Nat) : Int) - ((0 : Nat) : Int) = Builtin.Range.rangeSize lo hi 1 := by rw [rangeSize_one]; split <;> lia
    show IsRangeIter _ _ (lo + ((0 : Nat) : Int) * 1) ((((hi - lo).toNat : Nat) : Int) - ((0 : Nat) : Int)) 1
    rw [e1, e2]
    exact Heap.get?_push_size _ rfl
  · have e : b = (s.heap.push { cls := .type "range", data := .fields #[.int lo t, .int hi u, .int 1 v] }).objs.size := by simpa using hb
    subst e
    exact I1.fpOk (Nat.le_refl _) (I1.hok.fresh (Nat.le_refl _))
noncomputable def iRng1 (ta : TA) : TI := fun σ H R => ta σ H fun vs H1 => ∃ j : Int, vs = [.int j] ∧ -(2 ^ 62) ≤ j ∧ j < 2 ^ 62 ∧ R (Itr 0 j.toNat) H1
theorem pi_range1 {a : Expr} {ta : TA} {p pos : Pos} (hg : Gl X "range") (hm : X.mg "range" = none) (ha : PA X [a] ta) (hs : starEach [a] X.env = [(false, eval a X.env)] := by rfl) : PI X tg (.Call (.Name "range" p) [a] [] pos) (iRng1 ta) := by
  intro pins s σ H R I h
  refine Call_ (ld_blt I hg hm boot_range (PyProof.Rows.callWith_type1 (thn (ha pos pins s σ H _ I h) fun us s1 ⟨vs, H1, I1, r1, q1⟩ => ?_) hs rfl))
  obtain ⟨j, e, q1, q2, q⟩ := q1
  subst e
  cases r1 with
  | cons r rr =>
    cases rr
    obtain ⟨t, rfl⟩ := r
    exact call_range_1 (range_it I1 (by lia) (by lia) q1 q2 (by simpa using q))
noncomputable def tFor (wi : TI) (g : TG) (tb : TS) : TS := fun D σ H => wi σ H fun J H1 => ∃ W : Nat → Nat → St → Hp → Prop, (∃ m, W 0 m σ H1) ∧ ∀ i m σ H, W i m σ H →
  (J.stop i H ∧ D.nx σ H) ∨ (J.go i H ∧ ∃ N : St → Hp → Prop, (∀ σ' H', N σ' H' → ∃ m', m' < m ∧ W (i + 1) m' σ' H') ∧ ∀ x H', J.yld i H x H' → g x σ H' fun σ2 H2 => tb { D with nx := N, ct := N, bk := D.nx } σ2 H2)
noncomputable def pinsAt (fp : List Addr) (h : Heap) : List (Addr × Obj) := fp.filterMap fun b => (h.get? b).map fun o => (b, o)
theorem mem_pinsAt {fp : List Addr} {h : Heap} {b : Addr} {o : Obj} (hb : b ∈ fp) (e : h.get? b = some o) : (b, o) ∈ pinsAt fp h := List.mem_filterMap.mpr ⟨b, hb, by rw [e]; rfl⟩
theorem of_pinsAt {fp : List Addr} {h : Heap} {p : Addr × Obj} (hp : p ∈ pinsAt fp h) : p.1 ∈ fp ∧ h.get? p.1 = some p.2 := by
  obtain ⟨b, hb, e⟩ := List.mem_filterMap.mp hp
  cases q : h.get? b with
  | none => rw [q] at e; cases e
  | some o =>
    rw [q] at e
    have e' : (b, o) = p := Option.some.inj e
    subst e'
    exact ⟨hb, q⟩
theorem Inv.pinned {pins : List (Addr × Obj)} {σ : St} {H : Hp} {s : Shared} {fp : List Addr} (I : Inv X pins σ H s) (hf : ∀ b ∈ fp, FpOk X pins H b) (ho : ∀ b ∈ fp, ∃ o, s.heap.get? b = some o ∧ ∀ v, o.data ≠ .cell v) : Inv X (pins ++ pinsAt fp s.heap) σ H s :=
  I.pins_of fun p hp => (List.mem_append.mp hp).elim (fun z => I.pin p (List.mem_append_right _ z)) fun z => by
    obtain ⟨hb, e⟩ := of_pinsAt z
    obtain ⟨f0, f1, f2, _⟩ := hf p.1 hb
    obtain ⟨o, e', d⟩ := ho p.1 hb
    rw [e] at e'; cases e'
    exact ⟨e, f0, f1, f2, d⟩
theorem Inv.unpinned {pins pl : List (Addr × Obj)} {σ : St} {H : Hp} {s : Shared} (I : Inv X (pins ++ pl) σ H s) : Inv X pins σ H s := I.pins_of fun p hp => I.pin p (List.mem_append_right _ (List.mem_append_left _ hp))
theorem ps_for {iter : Expr} {body : List Stmt} {wi : TI} {g : TG} {tb : TS} {pos : Pos} (hp : PassesOwn (model X.prog X.w) X.A X.env X.xe) (hc : X.calm = true) (hi : PI X tg iter wi) (hg : PG X tg g) (hb : PSs X body tb)
    (hs : ∀ x, foldedSetIterable iter X.env x = pure x := by intro _; rfl) : PS X (.For tg iter body [] pos) (tFor wi g tb) := by
  intro pins s σ H D I h
  refine wpAny_For (thn (hi pins s σ H _ I h) fun v s1 h1 => thn h1 fun itv s2 h2 => ?_) hs
  obtain ⟨it, fp, tn, J, H2, e, I2, T, st2, f2, W, ⟨m0, w0⟩, turn⟩ := h2
  subst e
  -- what stays true of the iterator's objects through the loop
  have stat : ∀ {H' : Hp}, (∀ b ∈ fp, H' b = none) → ∀ b ∈ fp, FpOk X pins H' b := fun hn b hb => ⟨hn b hb, (f2 b hb).2⟩
  refine codeAny_forLoop_any (fun n s' => ∃ i σ' H', Inv X pins σ' H' s' ∧ tn i s'.heap ∧ (∀ b ∈ fp, H' b = none) ∧ W i n σ' H') ?_ m0 ⟨0, σ, H2, I2, st2, fun b hb => (f2 b hb).1, w0⟩
  rintro n s3 ⟨i, σ3, H3, I3, st3, fr3, w3⟩
  rcases turn i n σ3 H3 w3 with ⟨stop, qn⟩ | ⟨go, N, hN, step⟩
  · refine wpAny_passesOwn hp (thn (T.done X rfl rfl rfl hc i pins s3 σ3 H3 X.xe I3 (stat fr3) st3 stop) fun r s4 hh => ?_)
    obtain ⟨hr, I4⟩ := hh
    subst hr
    exact wpAny_execs_nil ⟨σ3, H3, I4, qn⟩
  · refine wpAny_passesOwn hp (thn (T.item X rfl rfl rfl hc i pins s3 σ3 H3 X.xe I3 (stat fr3) st3 go) fun r s4 hh => ?_)
    obtain ⟨u, hr, h4⟩ := hh
    subst hr
    refine wpAny_passesOwn hp (thn h4 fun _ s5 hh => ?_)
    obtain ⟨x, H5, I5, r5, y5, st5, fr5⟩ := hh
    have I5' := I5.pinned (stat fr5) (T.obj _ _ st5)
    refine wpAny_passesOwn hp (thn (hg _ s5 σ3 H5 x u _ I5' r5 (step x H5 y5)) fun _ s6 hh => ?_)
    obtain ⟨σ6, H6, I6, q6⟩ := hh
    refine wpAny_passesOwn hp (thn (hb _ s6 σ6 H6 _ I6 q6) fun f s7 q7 => ?_)
    have again : ∀ {σ7 : St} {H7 : Hp}, Inv X (pins ++ pinsAt fp s5.heap) σ7 H7 s7 → N σ7 H7 → ∃ m, m < n ∧ ∃ i σ' H', Inv X pins σ' H' s7 ∧ tn i s7.heap ∧ (∀ b ∈ fp, H' b = none) ∧ W i m σ' H' := fun {σ7 H7} I7 n7 => by
      obtain ⟨m', hm, w7⟩ := hN σ7 H7 n7
      refine ⟨m', hm, i + 1, σ7, H7, I7.unpinned, T.keep _ _ _ st5 fun b hb o e => (I7.pin (b, o) (List.mem_append_right _ (List.mem_append_right _ (mem_pinsAt hb e)))).1, fun b hb => ?_, w7⟩
      obtain ⟨o, e, d⟩ := T.obj _ _ st5 b hb
      exact (I7.pin (b, o) (List.mem_append_right _ (List.mem_append_right _ (mem_pinsAt hb e)))).2.1
    cases f with
    | next => obtain ⟨σ7, H7, I7, n7⟩ := q7; exact again I7 n7
    | cont => obtain ⟨σ7, H7, I7, n7⟩ := q7; exact again I7 n7
    | brk => obtain ⟨σ7, H7, I7, q7⟩ := q7; exact ⟨σ7, H7, I7.unpinned, q7⟩
    | ret v => obtain ⟨x7, σ7, H7, I7, r7, q7⟩ := q7; exact ⟨x7, σ7, H7, I7.unpinned, r7, q7⟩
end
theorem for_list {K : PySem.W.Frag} {a : Addr} {xs : List V} {g : TG} {tb : TS} {D : Ends} {σ : St} {H : Hp} (Pv : Nat → St → Hp → Prop) (h0 : Pv 0 σ H) (hl : ∀ i σ H, i ≤ xs.length → Pv i σ H → SqL K H a xs)
    (hs : ∀ i x σ H, xs[i]? = some x → Pv i σ H → g x σ H fun σ2 H2 => tb { D with nx := Pv (i + 1), ct := Pv (i + 1), bk := D.nx } σ2 H2) (hd : ∀ σ H, Pv xs.length σ H → D.nx σ H) :
    ∃ W : Nat → Nat → St → Hp → Prop, (∃ m, W 0 m σ H) ∧ ∀ i m σ H, W i m σ H →
      ((Itl K a).stop i H ∧ D.nx σ H) ∨ ((Itl K a).go i H ∧ ∃ N : St → Hp → Prop, (∀ σ' H', N σ' H' → ∃ m', m' < m ∧ W (i + 1) m' σ' H') ∧ ∀ x H', (Itl K a).yld i H x H' → g x σ H' fun σ2 H2 => tb { D with nx := N, ct := N, bk := D.nx } σ2 H2) := by
  refine ⟨fun i m σ H => m = xs.length - i ∧ i ≤ xs.length ∧ Pv i σ H, ⟨xs.length, by simp, Nat.zero_le _, h0⟩, ?_⟩
  rintro i m σ H ⟨rfl, hi, p⟩
  have q := hl i σ H hi p
  by_cases hlt : i < xs.length
  · refine .inr ⟨⟨xs, xs[i], q, by simp [hlt]⟩, Pv (i + 1), fun σ' H' p' => ⟨xs.length - (i + 1), by lia, rfl, hlt, p'⟩, fun x H' y => ?_⟩
    obtain ⟨e, y⟩ := y
    subst e
    exact hs i x σ _ (y xs q) p
  · have e : i = xs.length := by lia
    subst e
    exact .inl ⟨⟨xs, q, Nat.le_refl _⟩, hd σ H p⟩
theorem for_range {lo : Int} {n : Nat} {g : TG} {tb : TS} {D : Ends} {σ : St} {H : Hp} (Pv : Nat → St → Hp → Prop) (h0 : Pv 0 σ H)
    (hs : ∀ i σ H, i < n → Pv i σ H → g (.int (lo + i)) σ H fun σ2 H2 => tb { D with nx := Pv (i + 1), ct := Pv (i + 1), bk := D.nx } σ2 H2) (hd : ∀ σ H, Pv n σ H → D.nx σ H) :
    ∃ W : Nat → Nat → St → Hp → Prop, (∃ m, W 0 m σ H) ∧ ∀ i m σ H, W i m σ H →
      ((Itr lo n).stop i H ∧ D.nx σ H) ∨ ((Itr lo n).go i H ∧ ∃ N : St → Hp → Prop, (∀ σ' H', N σ' H' → ∃ m', m' < m ∧ W (i + 1) m' σ' H') ∧ ∀ x H', (Itr lo n).yld i H x H' → g x σ H' fun σ2 H2 => tb { D with nx := N, ct := N, bk := D.nx } σ2 H2) := by
  refine ⟨fun i m σ H => m = n - i ∧ i ≤ n ∧ Pv i σ H, ⟨n, by simp, Nat.zero_le _, h0⟩, ?_⟩
  rintro i m σ H ⟨rfl, hi, p⟩
  by_cases hlt : i < n
  · refine .inr ⟨hlt, Pv (i + 1), fun σ' H' p' => ⟨n - (i + 1), by lia, rfl, hlt, p'⟩, fun x H' y => ?_⟩
    obtain ⟨e, y⟩ := y
    subst e y
    exact hs i σ _ hlt p
  · have e : i = n := by lia
    subst e
    exact .inl ⟨Nat.le_refl _, hd σ H p⟩
end L2
namespace L2
open PySem PySem.Spec PyProof.Rows
noncomputable abbrev R2 := V → V → Hp → VK → Prop
noncomputable def OpR (X : Cx) (f : Value → Value → Sem Value) (r : R2) : Prop :=
  ∀ (pins : List (Addr × Obj)) (s : Shared) (σ : St) (H : Hp) (x y : V) (v u : Value) (Q : VK), Inv X pins σ H s → RelV x v → RelV y u → r x y H Q →
    wpAny (model X.prog X.w) X.A (f v u) (EP X pins σ Q) X.xe s
noncomputable def UnR (X : Cx) (f : Value → Sem Value) (r : V → Hp → VK → Prop) : Prop :=
  ∀ (pins : List (Addr × Obj)) (s : Shared) (σ : St) (H : Hp) (x : V) (v : Value) (Q : VK), Inv X pins σ H s → RelV x v → r x H Q →
    wpAny (model X.prog X.w) X.A (f v) (EP X pins σ Q) X.xe s
noncomputable def CallR (X : Cx) (f : Value) (r : List V → Hp → VK → Prop) : Prop :=
  ∀ (pins : List (Addr × Obj)) (s : Shared) (σ : St) (H : Hp) (xs : List V) (us : List Value) (Q : VK), Inv X pins σ H s → Vals xs us → r xs H Q →
    wpAny (model X.prog X.w) X.A (call f us) (EP X pins σ Q) X.xe s
noncomputable def TruR (X : Cx) (r : V → Hp → (Bool → Hp → Prop) → Prop) : Prop :=
  ∀ (pins : List (Addr × Obj)) (s : Shared) (σ : St) (H : Hp) (x : V) (v : Value) (Q : Bool → Hp → Prop), Inv X pins σ H s → RelV x v → r x H Q →
    wpAny (model X.prog X.w) X.A (truthy v) (TP X pins σ Q) X.xe s
noncomputable def tOp (r : R2) (ta tb : TE) : TE := fun σ H Q => ta σ H fun x H1 => tb σ H1 fun y H2 => r x y H2 Q
noncomputable def tUn (r : V → Hp → VK → Prop) (ta : TE) : TE := fun σ H Q => ta σ H fun x H1 => r x H1 Q
noncomputable def rI (C : Int → Int → Prop) (g : Int → Int → V) : R2 := fun x y H Q => ∃ i j, x = .int i ∧ y = .int j ∧ C i j ∧ Q (g i j) H
noncomputable def rI0 (g : Int → Int → V) : R2 := fun x y H Q => ∃ i j, x = .int i ∧ y = .int j ∧ Q (g i j) H
noncomputable def rU (g : Int → V) : V → Hp → VK → Prop := fun x H Q => ∃ i, x = .int i ∧ Q (g i) H
section
variable {X : Cx} {a b c : Expr} {ta tb tc : TE} {pos : Pos}
theorem binT (ha : PE X a ta) (hb : PE X b tb) {pins : List (Addr × Obj)} {s : Shared} {σ : St} {H : Hp} {R : V → V → Hp → Prop} (I : Inv X pins σ H s)
    (h : ta σ H fun x H1 => tb σ H1 fun y H2 => R x y H2) {Q : Value → Shared → Prop} {f : Value → Value → Sem Value}
    (hf : ∀ v u s2 x y H2, Inv X pins σ H2 s2 → RelV x v → RelV y u → R x y H2 → wpAny (model X.prog X.w) X.A (f v u) Q X.xe s2) :
    wpAny (model X.prog X.w) X.A (eval a X.env) (fun v s₁ => wpAny (model X.prog X.w) X.A (eval b X.env) (fun u s₂ => wpAny (model X.prog X.w) X.A (f v u) Q X.xe s₂) X.xe s₁) X.xe s := by
  refine thn (ha pins s σ H _ I h) fun v s1 hh => ?_
  obtain ⟨x, H1, I1, r1, q1⟩ := hh
  refine thn (hb pins s1 σ H1 _ I1 q1) fun u s2 hh => ?_
  obtain ⟨y, H2, I2, r2, q2⟩ := hh
  exact hf v u s2 x y H2 I2 r1 r2 q2
theorem pe_op {op : Operator} {r : R2} (ho : OpR X (binaryOp op) r) (ha : PE X a ta) (hb : PE X b tb) : PE X (.BinOp a op b pos) (tOp r ta tb) := by
  intro pins s σ H Q I h
  exact wpAny_BinOp (binT ha hb I h fun v u s2 x y H2 I2 rx ry q => ho pins s2 σ H2 x y v u Q I2 rx ry q)
theorem pe_un {op : UnaryOp} {r : V → Hp → VK → Prop} (ho : UnR X (unaryOp op) r) (ha : PE X a ta) : PE X (.UnaryOp op a pos) (tUn r ta) := by
  intro pins s σ H Q I h
  exact UnaryOp_ (thn (ha pins s σ H _ I h) fun v s1 ⟨x, H1, I1, r1, q1⟩ => ho pins s1 σ H1 x v Q I1 r1 q1)
theorem opI {f : Value → Value → Sem Value} {C : Int → Int → Prop} {g : Int → Int → Int}
    (rule : ∀ (i j : Int) (t u : Tok) (s : Shared) (Q : Value → Shared → Prop) (E : Value → Shared → Prop), C i j → Q (.int (g i j) s.toks) { s with toks := s.toks + 1 } → wpAny (model X.prog X.w) X.A (f (.int i t) (.int j u)) Q E s) :
    OpR X f (rI C fun i j => .int (g i j)) := by
  intro pins s σ H x y v u Q I rx ry h
  obtain ⟨i, j, rfl, rfl, hc, q⟩ := h
  obtain ⟨t, rfl⟩ := rx
  obtain ⟨t', rfl⟩ := ry
  exact rule i j t t' s _ _ hc ⟨.int (g i j), H, I.tok _, ⟨_, rfl⟩, q⟩
theorem opI0 {f : Value → Value → Sem Value} {g : Int → Int → Int}
    (rule : ∀ (i j : Int) (t u : Tok) (s : Shared) (Q : Value → Shared → Prop) (E : Value → Shared → Prop), Q (.int (g i j) s.toks) { s with toks := s.toks + 1 } → wpAny (model X.prog X.w) X.A (f (.int i t) (.int j u)) Q E s) :
    OpR X f (rI0 fun i j => .int (g i j)) := by
  intro pins s σ H x y v u Q I rx ry h
  obtain ⟨i, j, rfl, rfl, q⟩ := h
  obtain ⟨t, rfl⟩ := rx
  obtain ⟨t', rfl⟩ := ry
  exact rule i j t t' s _ _ ⟨.int (g i j), H, I.tok _, ⟨_, rfl⟩, q⟩
theorem opB0 {f : Value → Value → Sem Value} {g : Int → Int → Bool}
    (rule : ∀ (i j : Int) (t u : Tok) (s : Shared) (Q : Value → Shared → Prop) (E : Value → Shared → Prop), Q (.bool (g i j)) s → wpAny (model X.prog X.w) X.A (f (.int i t) (.int j u)) Q E s) :
    OpR X f (rI0 fun i j => .bl (g i j)) := by
  intro pins s σ H x y v u Q I rx ry h
  obtain ⟨i, j, rfl, rfl, q⟩ := h
  obtain ⟨t, rfl⟩ := rx
  obtain ⟨t', rfl⟩ := ry
  exact rule i j t t' s _ _ ⟨.bl (g i j), H, I, rfl, q⟩
noncomputable def CPow (i j : Int) : Prop := 0 ≤ j ∧ j ≤ 1000000 ∧ i.natAbs < 2 ^ 64
noncomputable def CMul (i j : Int) : Prop := (-(2 ^ 64) < i ∧ i < 2 ^ 64) ∨ (-(2 ^ 64) < j ∧ j < 2 ^ 64)
theorem CMul.ok {i j : Int} (h : CMul i j) : IntMulOk i j := by
  rcases h with ⟨h1, h2⟩ | ⟨h1, h2⟩
  · exact .of_left (intBits_le_64 h1 h2)
  · exact .of_right (intBits_le_64 h1 h2)
theorem op_add : OpR X (binaryOp .Add) (rI0 fun i j => .int (i + j)) := opI0 fun _ _ _ _ _ _ _ q => add_int q
theorem op_sub : OpR X (binaryOp .Sub) (rI0 fun i j => .int (i - j)) := opI0 fun _ _ _ _ _ _ _ q => sub_int q
theorem op_mul : OpR X (binaryOp .Mult) (rI CMul fun i j => .int (i * j)) := opI fun _ _ _ _ _ _ _ hc q => mul_int q hc.ok
theorem op_mod : OpR X (binaryOp .Mod) (rI (fun _ j => 0 < j) fun i j => .int (i % j)) := opI fun i j _ _ _ _ _ hc q => by
  have h1 : (0 : Int) < j := hc
  exact mod_int' (by lia) (by rw [Int.fmod_eq_emod_of_nonneg i (by lia)]; exact q)
theorem op_pow : OpR X (binaryOp .Pow) (rI CPow fun i j => .int (i ^ j.toNat)) := opI fun _ _ _ _ _ _ _ hc q => pow_int_small hc.1 hc.2.1 hc.2.2 q
theorem unI {f : Value → Sem Value} {g : Int → Int}
    (rule : ∀ (i : Int) (t : Tok) (s : Shared) (Q : Value → Shared → Prop) (E : Value → Shared → Prop), Q (.int (g i) s.toks) { s with toks := s.toks + 1 } → wpAny (model X.prog X.w) X.A (f (.int i t)) Q E s) :
    UnR X f (rU fun i => .int (g i)) := by
  intro pins s σ H x v Q I rx h
  obtain ⟨i, rfl, q⟩ := h
  obtain ⟨t, rfl⟩ := rx
  exact rule i t s _ _ ⟨.int (g i), H, I.tok _, ⟨_, rfl⟩, q⟩
theorem un_neg : UnR X (unaryOp .USub) (rU fun i => .int (-i)) := unI fun _ _ _ _ _ q => neg_int q
end
noncomputable def scal : V → V → Bool
  | .non, .non => true | .non, .int _ => true | .int _, .non => true | .non, .bl _ => true | .bl _, .non => true | .non, .str _ => true | .str _, .non => true
  | .int _, .int _ => true | .bl _, .bl _ => true | .str _, .str _ => true | .byt _, .byt _ => true
  | .int _, .str _ => true | .str _, .int _ => true | .bl _, .str _ => true | .str _, .bl _ => true
  | _, _ => false
noncomputable def rEq : R2 := fun x y H Q => scal x y = true ∧ Q (.bl (decide (x = y))) H
noncomputable def rNe : R2 := fun x y H Q => scal x y = true ∧ Q (.bl (!decide (x = y))) H
theorem dec_int {i j : Int} : decide (V.int i = V.int j) = (i == j) := by
  rw [Bool.eq_iff_iff]
  simp
theorem dec_bl {i j : Bool} : decide (V.bl i = V.bl j) = (i == j) := by
  rw [Bool.eq_iff_iff]
  simp
theorem dec_str {i j : Str} : decide (V.str i = V.str j) = (i == j) := by
  rw [Bool.eq_iff_iff]
  simp
theorem dec_byt {i j : Array UInt8} : decide (V.byt i = V.byt j) = (i.toList == j.toList) := by
  rw [Bool.eq_iff_iff]
  cases i
  cases j
  simp
section
variable {X : Cx} {a b c : Expr} {ta tb tc : TE} {pos : Pos}
theorem fin_bl {pins : List (Addr × Obj)} {σ : St} {H : Hp} {s : Shared} {Q : VK} {k k' : Bool} (I : Inv X pins σ H s) (q : Q (.bl k) H) (e : k = k') : EP X pins σ Q (.bool k') s := by
  subst e
  exact ⟨.bl k, H, I, rfl, q⟩
theorem op_eq : OpR X (compareOp .Eq) rEq := by
  intro pins s σ H x y v u Q I rx ry h
  obtain ⟨hs, q⟩ := h
  cases x with
  | non =>
    cases rx
    cases y with
    | non => cases ry; exact PySem.EqNone.eq_none_none (fin_bl I q (by simp))
    | bl j => cases ry; exact PySem.EqNone.eq_none_bool (fin_bl I q (by simp))
    | int j => obtain ⟨t', rfl⟩ := ry; exact PySem.EqNone.eq_none_int (fin_bl I q (by simp))
    | str j => obtain ⟨t', rfl⟩ := ry; exact PySem.EqNone.eq_none_str (fin_bl I q (by simp))
    | _ => exact absurd (show false = true from hs) Bool.false_ne_true
  | bl i =>
    cases rx
    cases y with
    | non => cases ry; exact PySem.EqNone.eq_bool_none (fin_bl I q (by simp))
    | bl j => cases ry; exact eq_bool (fin_bl I q dec_bl)
    | str j => obtain ⟨t', rfl⟩ := ry; exact PySem.EqMixed.eq_bool_str (fin_bl I q (by simp))
    | _ => exact absurd (show false = true from hs) Bool.false_ne_true
  | int i =>
    obtain ⟨t, rfl⟩ := rx
    cases y with
    | non => cases ry; exact PySem.EqNone.eq_int_none (fin_bl I q (by simp))
    | int j => obtain ⟨t', rfl⟩ := ry; exact eq_int (fin_bl I q dec_int)
    | str j => obtain ⟨t', rfl⟩ := ry; exact PySem.EqMixed.eq_int_str (fin_bl I q (by simp))
    | _ => exact absurd (show false = true from hs) Bool.false_ne_true
  | str i =>
    obtain ⟨t, rfl⟩ := rx
    cases y with
    | non => cases ry; exact PySem.EqNone.eq_str_none (fin_bl I q (by simp))
    | bl j => cases ry; exact PySem.EqMixed.eq_str_bool (fin_bl I q (by simp))
    | int j => obtain ⟨t', rfl⟩ := ry; exact PySem.EqMixed.eq_str_int (fin_bl I q (by simp))
    | str j => obtain ⟨t', rfl⟩ := ry; exact eq_str (fin_bl I q dec_str)
    | _ => exact absurd (show false = true from hs) Bool.false_ne_true
  | byt i =>
    obtain ⟨t, rfl⟩ := rx
    cases y with
    | byt j => obtain ⟨t', rfl⟩ := ry; exact PySem.W.eq_bytes (fin_bl I q dec_byt)
    | _ => exact absurd (show false = true from hs) Bool.false_ne_true
  | _ => cases y <;> exact absurd (show false = true from hs) Bool.false_ne_true
theorem op_ne : OpR X (compareOp .NotEq) rNe := by
  intro pins s σ H x y v u Q I rx ry h
  obtain ⟨hs, q⟩ := h
  cases x with
  | non =>
    cases rx
    cases y with
    | non => cases ry; exact PySem.EqNone.ne_none_none (fin_bl I q (by simp))
    | bl j => cases ry; exact PySem.EqNone.ne_none_bool (fin_bl I q (by simp))
    | int j => obtain ⟨t', rfl⟩ := ry; exact PySem.EqNone.ne_none_int (fin_bl I q (by simp))
    | str j => obtain ⟨t', rfl⟩ := ry; exact PySem.EqNone.ne_none_str (fin_bl I q (by simp))
    | _ => exact absurd (show false = true from hs) Bool.false_ne_true
  | bl i =>
    cases rx
    cases y with
    | non => cases ry; exact PySem.EqNone.ne_bool_none (fin_bl I q (by simp))
    | bl j => cases ry; exact ne_bool (fin_bl I q (congrArg not dec_bl))
    | str j => obtain ⟨t', rfl⟩ := ry; exact PySem.EqMixed.ne_bool_str (fin_bl I q (by simp))
    | _ => exact absurd (show false = true from hs) Bool.false_ne_true
  | int i =>
    obtain ⟨t, rfl⟩ := rx
    cases y with
    | non => cases ry; exact PySem.EqNone.ne_int_none (fin_bl I q (by simp))
    | int j => obtain ⟨t', rfl⟩ := ry; exact ne_int (fin_bl I q (congrArg not dec_int))
    | str j => obtain ⟨t', rfl⟩ := ry; exact PySem.EqMixed.ne_int_str (fin_bl I q (by simp))
    | _ => exact absurd (show false = true from hs) Bool.false_ne_true
  | str i =>
    obtain ⟨t, rfl⟩ := rx
    cases y with
    | non => cases ry; exact PySem.EqNone.ne_str_none (fin_bl I q (by simp))
    | bl j => cases ry; exact PySem.EqMixed.ne_str_bool (fin_bl I q (by simp))
    | int j => obtain ⟨t', rfl⟩ := ry; exact PySem.EqMixed.ne_str_int (fin_bl I q (by simp))
    | str j => obtain ⟨t', rfl⟩ := ry; exact ne_str (fin_bl I q (congrArg not dec_str))
    | _ => exact absurd (show false = true from hs) Bool.false_ne_true
  | byt i =>
    obtain ⟨t, rfl⟩ := rx
    cases y with
    | byt j => obtain ⟨t', rfl⟩ := ry; exact PySem.W.ne_bytes (fin_bl I q (congrArg not dec_byt))
    | _ => exact absurd (show false = true from hs) Bool.false_ne_true
  | _ => cases y <;> exact absurd (show false = true from hs) Bool.false_ne_true
theorem op_lt : OpR X (compareOp .Lt) (rI0 fun i j => .bl (decide (i < j))) := opB0 fun _ _ _ _ _ _ _ q => lt_int q
theorem op_le : OpR X (compareOp .LtE) (rI0 fun i j => .bl (decide (i ≤ j))) := opB0 fun _ _ _ _ _ _ _ q => le_int q
theorem op_gt : OpR X (compareOp .Gt) (rI0 fun i j => .bl (decide (j < i))) := opB0 fun _ _ _ _ _ _ _ q => gt_int q
theorem op_ge : OpR X (compareOp .GtE) (rI0 fun i j => .bl (decide (j ≤ i))) := opB0 fun _ _ _ _ _ _ _ q => ge_int q
theorem op_isN : OpR X (compareOp .Is) (fun x y H Q => y = .non ∧ Q (.bl (decide (x = .non))) H) := by
  intro pins s σ H x y v u Q I rx ry h
  obtain ⟨rfl, q⟩ := h
  cases ry
  refine is_none_gen (fin_bl I q ?_)
  cases x <;> first
    | (cases rx; rfl)
    | (obtain ⟨t, rfl⟩ := rx; rfl)
theorem op_notN : OpR X (compareOp .IsNot) (fun x y H Q => y = .non ∧ Q (.bl (!decide (x = .non))) H) := by
  intro pins s σ H x y v u Q I rx ry h
  obtain ⟨rfl, q⟩ := h
  cases ry
  refine isnot_none_gen (fin_bl I q ?_)
  cases x <;> first
    | (cases rx; rfl)
    | (obtain ⟨t, rfl⟩ := rx; rfl)
theorem nomark (b : Expr) {op : CmpOp} (h : op ≠ .In := by decide) (h2 : op ≠ .NotIn := by decide) : behindInMarks op b = false := by
  have e1 : (op == CmpOp.In) = false := by cases op <;> first | rfl | exact absurd rfl h
  have e2 : (op == CmpOp.NotIn) = false := by cases op <;> first | rfl | exact absurd rfl h2
  cases b <;> simp [behindInMarks, e1, e2]
theorem pe_cmpR {op : CmpOp} {r : R2} (ho : OpR X (compareOp op) r) (ha : PE X a ta) (hb : PE X b tb) (hm : behindInMarks op b = false) : PE X (.Compare a [op] [b] pos) (tOp r ta tb) := by
  intro pins s σ H Q I h
  exact wpAny_Compare1 (binT ha hb I h fun v u s2 x y H2 I2 rx ry q => ho pins s2 σ H2 x y v u Q I2 rx ry q) hm
noncomputable def tTest (t : TE) : TT := fun σ H Q => t σ H fun x H' => ∃ k, x = .bl k ∧ Q k H'
theorem pt_cmpR {op : CmpOp} {r : R2} (ho : OpR X (compareOp op) r) (ha : PE X a ta) (hb : PE X b tb) (hm : behindInMarks op b = false) : PT X (.Compare a [op] [b] pos) (tTest (tOp r ta tb)) := by
  intro pins s σ H Q I h
  refine wpAny_isTrue_Compare1 (thn (ha pins s σ H _ I h) fun v s1 ⟨x, H1, I1, r1, q1⟩ => thn (hb pins s1 σ H1 _ I1 q1) fun u s2 ⟨y, H2, I2, r2, q2⟩ =>
    thn (ho pins s2 σ H2 x y v u _ I2 r1 r2 q2) fun c s3 ⟨z, H3, I3, r3, k, e, q3⟩ => ?_) hm
  subst e
  cases r3
  exact wpAny_truthy_bool ⟨H3, I3, q3⟩
noncomputable def TruV (K : PySem.W.Frag) (x : V) (H : Hp) (k : Bool) : Prop :=
  match x with
  | .non => k = false
  | .bl b => k = b
  | .int i => k = (i != 0)
  | .str y => y.length ≤ sizeLine ∧ k = ((y.length : Int) != 0)
  | .byt y => y.size ≤ sizeLine ∧ k = ((y.size : Int) != 0)
  | .ref p => (∃ xs, SqL K H p xs ∧ k = !xs.isEmpty) ∨ (∃ xs, SqT K H p xs ∧ k = !xs.isEmpty) ∨ ∃ kvs, H p = some (.dK kvs) ∧ k = !kvs.isEmpty
  | _ => False
theorem isEmpty_kv {κ : Type} {kvs : List (κ × V)} {vs : List (κ × Value)} (r : KV kvs vs) : (!vs.isEmpty) = !kvs.isEmpty := by
  cases r <;> rfl
theorem isEmpty_of {xs : List V} {its : List Value} (r : Vals xs its) : (!its.toArray.isEmpty) = !xs.isEmpty := by
  cases r <;> simp
theorem line63 : (sizeLine : Nat) < 2 ^ 63 := by rw [sizeLine_eq]; decide
theorem tru_ok : TruR X (fun x H Q => ∃ k, TruV X.K x H k ∧ Q k H) := by
  intro pins s σ H x v Q I rx h
  obtain ⟨k, e, q⟩ := h
  have hl := line63
  have hs : sizeLine = 16777216 := sizeLine_eq
  cases x with
  | non =>
    cases rx
    have e' : k = false := e
    subst e'
    exact truthy_none ⟨H, I, q⟩
  | bl b =>
    cases rx
    have e' : k = b := e
    subst e'
    exact wpAny_truthy_bool ⟨H, I, q⟩
  | int i =>
    obtain ⟨t, rfl⟩ := rx
    have e' : k = (i != 0) := e
    subst e'
    exact PySem.P.truthy_int ⟨H, I, q⟩
  | str y =>
    obtain ⟨t, rfl⟩ := rx
    obtain ⟨hy, e'⟩ : y.length ≤ sizeLine ∧ k = ((y.length : Int) != 0) := e
    subst e'
    exact PySem.P.truthy_str (by lia) ⟨H, I.tok _, q⟩
  | byt y =>
    obtain ⟨t, rfl⟩ := rx
    obtain ⟨hy, e'⟩ : y.size ≤ sizeLine ∧ k = ((y.size : Int) != 0) := e
    subst e'
    exact PySem.W.truthy_bytes (by lia) ⟨H, I.tok _, q⟩
  | ref p =>
    cases rx
    have e' : (∃ xs, SqL X.K H p xs ∧ k = !xs.isEmpty) ∨ (∃ xs, SqT X.K H p xs ∧ k = !xs.isEmpty) ∨ ∃ kvs, H p = some (.dK kvs) ∧ k = !kvs.isEmpty := e
    rcases e' with ⟨xs, hx, e'⟩ | ⟨xs, hx, e'⟩ | ⟨kvs, hx, e'⟩
    · subst e'
      obtain ⟨its, r, pl, hz⟩ := I.list hx
      have hlen := r.length
      exact wpAny_truthy_list pl.isList (by simp only [List.size_toArray]; lia) ⟨H, I.tok _, by rw [isEmpty_of r]; exact q⟩
    · subst e'
      obtain ⟨its, r, pl, hz⟩ := I.tuple hx
      have hlen := r.length
      exact truthy_tuple pl (by simp only [List.size_toArray]; lia) ⟨H, I.tok _, by rw [isEmpty_of r]; exact q⟩
    · subst e'
      obtain ⟨hz, hS, vs, r, m⟩ : kvs.length ≤ sizeLine ∧ (p == sysModules) = false ∧ ∃ vs, KV kvs vs ∧ s.heap.DictOf (mixKind X.prog X.w) p vs := I.hok p _ hx
      have hlen : kvs.length = vs.length := Paired.length r
      exact wpAny_truthy_dict hS m (by lia) ⟨H, I.tok _, by rw [isEmpty_kv r]; exact q⟩
  | _ => exact (show False from e).elim
theorem pt_truth (ha : PE X a ta) (he : ∀ whole, isTrue a X.env whole = (do let v ← whole; standAt a.pos; holding [v] (truthy v))) :
    PT X a (fun σ H Q => ta σ H fun x H' => ∃ k, TruV X.K x H' k ∧ Q k H') := by
  intro pins s σ H Q I h
  exact isTrue_plain (thn (ha pins s σ H _ I h) fun v s1 ⟨x, H1, I1, r1, q1⟩ => tru_ok pins s1 σ H1 x v Q I1 r1 q1) (he _)
theorem op_add_str : OpR X (binaryOp .Add) (fun x y H Q => ∃ i j, x = .str i ∧ y = .str j ∧ i.length + j.length ≤ sizeLine ∧ Q (.str (i ++ j)) H) := by
  intro pins s σ H x y v u Q I rx ry h
  obtain ⟨i, j, rfl, rfl, hz, q⟩ := h
  obtain ⟨t, rfl⟩ := rx
  obtain ⟨t', rfl⟩ := ry
  exact add_str (fun t' tk => ⟨.str (i ++ j), H, I.tok _, ⟨_, rfl⟩, q⟩) hz
theorem vals1 {x : V} {us : List Value} (r : Vals [x] us) : ∃ u, us = [u] ∧ RelV x u := by
  cases r with
  | cons r1 r2 => cases r2; exact ⟨_, rfl, r1⟩
end
end L2
namespace L2
open PySem PySem.Spec PyProof.Rows
structure ObjM (h : Heap) (x dx C : Addr) (mA : Str → Option Value) : Prop where
  obj : h.get? x = some (PySem.W.instObj C dx)
  ns : h.Ns1 dx mA
  ne : dx ≠ x
theorem lookIn_ns {h : Heap} {dx : Addr} {mA : Str → Option Value} (n : h.Ns1 dx mA) : ∃ od, h.get? dx = some od ∧ ∀ name, PySem.W.lookIn name od = some (mA name) := by
  obtain ⟨o, es, ep, ho, hd, hk, _, hm⟩ := n
  refine ⟨o, ho, fun name => ?_⟩
  have e := hm name
  unfold nsFind findBy at e
  rw [← Array.find?_toList] at e
  unfold PySem.W.lookIn
  rw [hd]
  dsimp only
  split
  · rename_i y q
    rw [q] at e
    exact congrArg some e
  · rename_i q
    rw [q] at e
    have a : es.toList.any (·.refKey) = false := by
      rw [List.any_eq_false]
      intro y hy
      obtain ⟨z, t, hkey⟩ := hk y (Array.mem_toList_iff.mp hy)
      simp [DictEntry.refKey, hkey]
    have a' : ¬ es.toList.any (·.refKey) = true := by rw [a]; exact Bool.false_ne_true
    rw [if_neg a']
    exact congrArg some e
theorem ObjM.look {h : Heap} {x dx C : Addr} {mA : Str → Option Value} (I : ObjM h x dx C mA) : ∃ od, PySem.W.InstAt h x (PySem.W.instObj C dx) C (some od) ∧ ∀ name, PySem.W.lookIn name od = some (mA name) :=
  let ⟨od, ho, hl⟩ := lookIn_ns I.ns
  ⟨od, ⟨I.obj, rfl, rfl, ho⟩, hl⟩
section
variable {prog : Program} {w : World} {A : Around} {E : Value → Shared → Prop} {s : Shared} {K : PySem.W.Frag} {x dx C f : Addr} {mA : Str → Option Value} {name : Str} {v : Value}
theorem get_map {expr : Bool} {Q : Value → Shared → Prop} (X : K.In s.heap) (I : ObjM s.heap x dx C mA) (hg : PySem.W.plainGet K C name = true) (hh : PySem.W.hasDictIn K C = true)
    (ha : PySem.W.findIn K (.ref C) name = some none) (hv : mA name = some v) (hv' : PySem.W.handedIn v = true) (h : Q v { s with toks := s.toks + 1 }) :
    wpAny (model prog w) A (getAttr (.ref x) name expr) Q E s := by
  obtain ⟨od, J, hl⟩ := I.look
  exact PySem.W.get_value X J (PySem.W.plainGet_of hg).1 (PySem.W.findObj_own hh ha rfl (by rw [hl, hv])) hv' h
theorem get_meth {pl : Sem Bool} {Q : Value × List Value → Shared → Prop} (X : K.In s.heap) (I : ObjM s.heap x dx C mA) (hg : PySem.W.plainGet K C name = true)
    (hf : PySem.W.findIn K (.ref C) name = some (some (.ref f))) (ht : PySem.W.isFn K (.ref f) = true) (hv : mA name = none) (h : Q (.ref f, [.ref x]) s) :
    wpAny (model prog w) A (getMethod (.ref x) name pl) Q E s := by
  obtain ⟨od, J, hl⟩ := I.look
  exact PySem.W.method_fn X J (PySem.W.plainGet_of hg).1 (PySem.W.plainGet_of hg).2 hf (beq_iff_eq.mp ht) (by show (PySem.W.lookIn name od).map (·.isSome) = some false; rw [hl, hv]; rfl) h
theorem set_map {ns : List Str} {Q : Unit → Shared → Prop} (X : K.In s.heap) (I : ObjM s.heap x dx C mA)
    (hs : PySem.W.findIn K (.ref C) "__setattr__" = some (some (.builtin "object.__setattr__"))) (hp : PySem.W.plainOver K C = true) (ht : PySem.W.takerIn K C name = some none) (hh : PySem.W.hasDictIn K C = true)
    (hw : PySem.Within mA ns) (hsz : ns.length ≤ sizeLine)
    (h : ∀ h', ObjM h' x dx C (fun y => if y = name then some v else mA y) → Heap.SameBut dx s.heap h' → Q () { s with heap := h', toks := s.toks + 2 }) :
    wpAny (model prog w) A (setAttr (.ref x) name v) Q E s := by
  obtain ⟨od, J, hl⟩ := I.look
  refine PySem.W.set_plain X J hs (PySem.W.osa_open (s := { s with toks := s.toks + 1 }) (r := none) X J hp ht fun b => ?_)
  obtain ⟨cd, hc, hd'⟩ := PySem.W.any_some hh
  have hx : s.heap.get? x = some ⟨.ref C, some dx, .plain, #[]⟩ := I.obj
  refine wpAny_bind (wpAny_pure (wpAny_bind (wpAny_bind (wpAny_loadPart hx (wpAny_bind (PySem.W.Looks.here (s := { s with toks := s.toks + 1 }) (PySem.W.looks_clsIn X hc) ?_))))))
  rw [hd']
  refine wpAny_pure (a := some dx) (wpAny_bind (wpAny_pure (wpAny_bind ?_)))
  refine wpAny_nsSet1 (s := { s with toks := s.toks + 1 }) I.ns fun h' hn2 hs2 => ?_
  obtain ⟨oD, esD, epD, hoD, hdD, hcD⟩ := hn2.count (PySem.Within.cons name v hw)
  refine wpAny_bind (wpAny_lookBehind hoD (by rw [hdD]; exact pastItsLine_dict (Nat.le_trans hcD (by rw [List.length_cons]; lia))) ?_)
  exact wpAny_pure (h _ ⟨(hs2.2 _ (Ne.symm I.ne)).trans I.obj, hn2, I.ne⟩ hs2)
theorem make_map {R : Result → Shared → Prop} {vs : List Value} {kw : List (Str × Value)} (X : K.In s.heap) (hm : PySem.W.makesIn K C = true)
    (hi : PySem.W.findIn K (.ref C) "__init__" = some (some (.ref f))) (hf : PySem.W.typeIn K (.ref f) = some (.type "function"))
    (h : codeAny (model prog w) (A.under (.builtin "type.__call__" ⟨.ref C :: vs, kw⟩)) (.call (.ref f) ⟨.ref (s.heap.objs.size + 1) :: vs, kw⟩) (PySem.W.InitBack (s.heap.objs.size + 1) R)
      { s with heap := (s.heap.push PySem.W.emptyDict).push (PySem.W.instObj C s.heap.objs.size) }) :
    codeAny (model prog w) A (.call (.ref C) ⟨vs, kw⟩) R s := by
  obtain ⟨hh, g, d, t, os⟩ := s
  exact PySem.W.make_core (PySem.W.makes_of X hm) (PySem.W.looks_findIn X hi) (fun self => PySem.W.bind_fn X self hf) (.inl rfl) h
end
noncomputable def putF (f : Str) (v : V) : List (Str × V) → List (Str × V)
  | [] => [(f, v)]
  | (g, x) :: r => if g = f then (g, v) :: r else (g, x) :: putF f v r
theorem lookup_putF (f g : Str) (v : V) : ∀ fs : List (Str × V), (putF f v fs).lookup g = if g = f then some v else fs.lookup g
  | [] => by
    show List.lookup g [(f, v)] = _
    by_cases h : g = f
    · have hb : (g == f) = true := beq_iff_eq.mpr h
      simp only [List.lookup, hb, if_pos h]
    · have hb : (g == f) = false := beq_eq_false_iff_ne.mpr h
      simp only [List.lookup, hb, if_neg h]
  | (k, x) :: r => by
    have ih := lookup_putF f g v r
    rw [show putF f v ((k, x) :: r) = (if k = f then (k, v) :: r else (k, x) :: putF f v r) from rfl]
    by_cases hk : k = f
    · rw [if_pos hk]
      by_cases h : g = k
      · have hb : (g == k) = true := beq_iff_eq.mpr h
        simp only [List.lookup, hb, if_pos (h.trans hk)]
      · have hb : (g == k) = false := beq_eq_false_iff_ne.mpr h
        simp only [List.lookup, hb, if_neg (fun e : g = f => h (e.trans hk.symm))]
    · rw [if_neg hk]
      by_cases h : g = k
      · have hb : (g == k) = true := beq_iff_eq.mpr h
        simp only [List.lookup, hb, if_neg (fun e : g = f => hk (h.symm.trans e))]
      · have hb : (g == k) = false := beq_eq_false_iff_ne.mpr h
        simp only [List.lookup, hb]
        exact ih
theorem keys_putF (f : Str) (v : V) : ∀ fs : List (Str × V), f ∈ (putF f v fs).map (·.1) ∧ ∀ g, g ∈ fs.map (·.1) → g ∈ (putF f v fs).map (·.1)
  | [] => ⟨by simp [putF], fun g h => by simp at h⟩
  | (k, x) :: r => by
    obtain ⟨i1, i2⟩ := keys_putF f v r
    rw [show putF f v ((k, x) :: r) = (if k = f then (k, v) :: r else (k, x) :: putF f v r) from rfl]
    by_cases hk : k = f
    · rw [if_pos hk]
      subst hk
      exact ⟨by simp, fun g h => by simpa using h⟩
    · rw [if_neg hk]
      refine ⟨?_, fun g h => ?_⟩
      · rw [List.map_cons]
        exact List.mem_cons_of_mem _ i1
      · rw [List.map_cons] at h ⊢
        rcases List.mem_cons.mp h with e | e
        · exact List.mem_cons.mpr (.inl e)
        · exact List.mem_cons_of_mem _ (i2 g e)
theorem length_putF (f : Str) (v : V) : ∀ fs : List (Str × V), (putF f v fs).length ≤ fs.length + 1
  | [] => by simp [putF]
  | (k, x) :: r => by
    have ih := length_putF f v r
    rw [show putF f v ((k, x) :: r) = (if k = f then (k, v) :: r else (k, x) :: putF f v r) from rfl]
    by_cases hk : k = f
    · rw [if_pos hk, List.length_cons, List.length_cons]; lia
    · rw [if_neg hk, List.length_cons, List.length_cons]; lia
theorem RelO.some_of {v : V} {o : Option Value} (r : RelO (some v) o) : ∃ u, o = some u ∧ RelV v u := by
  cases o with
  | none => exact (show False from r).elim
  | some u => exact ⟨u, rfl, r⟩
theorem RelO.none_of {o : Option Value} (r : RelO none o) : o = none := by
  cases o with
  | none => rfl
  | some u => exact (show False from r).elim
theorem handed_of {v : V} {u : Value} (r : RelV v u) : PySem.W.handedIn u = true := by
  cases v with
  | non => cases (show u = Value.none from r); rfl
  | bl b => cases (show u = Value.bool b from r); rfl
  | int i => obtain ⟨t, e⟩ := (show ∃ t, u = Value.int i t from r); cases e; rfl
  | str x => obtain ⟨t, e⟩ := (show ∃ t, u = Value.str x t from r); cases e; rfl
  | byt b => obtain ⟨t, e⟩ := (show ∃ t, u = Value.bytes b t from r); cases e; rfl
  | flt b => obtain ⟨t, e⟩ := (show ∃ t, u = Value.float b t from r); cases e; rfl
  | ref a => cases (show u = Value.ref a from r); rfl
  | ty n => cases (show u = Value.type n from r); rfl
section
variable {P : Program} {w : World} {H H' : Hp} {h h' : Heap} {a C dx : Addr} {fs fs' : List (Str × V)}
theorem ins_get (hok : HOk P w H h) (e : H a = some (.ins C dx fs)) : ∃ mA, ObjM h a dx C mA ∧ (∀ f, RelO (fs.lookup f) (mA f)) ∧ PySem.Within mA (fs.map (·.1)) ∧ fs.length ≤ 1000 ∧ H dx = some (.own a) := by
  obtain ⟨d, z, ne, ob, mA, n, r, q⟩ := (show ObjOk P w H h a (.ins C dx fs) from hok a _ e)
  exact ⟨mA, ⟨ob, n, ne⟩, r, q, z, d⟩
end
structure Cls (K : PySem.W.Frag) (C : Addr) : Prop where
  pg : PySem.W.plainGet K C Str.empty = true
  hd : PySem.W.hasDictIn K C = true
  po : PySem.W.plainOver K C = true
  sa : PySem.W.findIn K (.ref C) "__setattr__" = some (some (.builtin "object.__setattr__"))
theorem Cls.get {K : PySem.W.Frag} {C : Addr} (c : Cls K C) (f : Str) : PySem.W.plainGet K C f = true := c.pg
noncomputable def NoAttr (K : PySem.W.Frag) (C : Addr) (f : Str) : Prop := PySem.W.findIn K (.ref C) f = some none
theorem NoAttr.taker {K : PySem.W.Frag} {C : Addr} {f : Str} (n : NoAttr K C f) : PySem.W.takerIn K C f = some none := by
  unfold PySem.W.takerIn
  rw [show PySem.W.findIn K (.ref C) f = some none from n]
  rfl
structure Meth (K : PySem.W.Frag) (C : Addr) (m : Str) (f : Addr) : Prop where
  at_ : PySem.W.findIn K (.ref C) m = some (some (.ref f))
  fn : PySem.W.isFn K (.ref f) = true
  kp : PySem.W.keepIn K (.ref f) = true
section
variable {X : Cx} {pins : List (Addr × Obj)} {σ : St} {H : Hp} {s : Shared} {a C dx : Addr} {fs : List (Str × V)} {f : Str} {v : V} {A : Around} {E : Value → Shared → Prop}
theorem getattr_ok {b : Bool} {Q : Value → Shared → Prop} (I : Inv X pins σ H s) (e : H a = some (.ins C dx fs)) (c : Cls X.K C) (n : NoAttr X.K C f) (l : fs.lookup f = some v)
    (h : ∀ u s', Inv X pins σ H s' → RelV v u → Q u s') : wpAny (model X.prog X.w) A (getAttr (.ref a) f b) Q E s := by
  obtain ⟨mA, O, r, _, _, _⟩ := ins_get I.hok e
  obtain ⟨u, hu, ru⟩ := RelO.some_of (v := v) (o := mA f) (by rw [← l]; exact r f)
  exact get_map I.kIn O (c.get f) c.hd n hu (handed_of ru) (h u _ (I.tok _) ru)
theorem getmeth_ok {m : Str} {g : Addr} {pl : Sem Bool} {Q : Value × List Value → Shared → Prop} (I : Inv X pins σ H s) (e : H a = some (.ins C dx fs)) (c : Cls X.K C) (k : Meth X.K C m g) (l : fs.lookup m = none)
    (h : Q (.ref g, [.ref a]) s) : wpAny (model X.prog X.w) A (getMethod (.ref a) m pl) Q E s := by
  obtain ⟨mA, O, r, _, _, _⟩ := ins_get I.hok e
  have hn : mA m = none := RelO.none_of (by rw [← l]; exact r m)
  exact get_meth I.kIn O (c.get m) k.at_ k.fn hn h
theorem setattr_ok {y : V} {u : Value} {Q : Unit → Shared → Prop} (I : Inv X pins σ H s) (e : H a = some (.ins C dx fs)) (c : Cls X.K C) (n : NoAttr X.K C f) (hl : fs.length < 1000) (ry : RelV y u)
    (h : ∀ s', Inv X pins σ (upd H a (.ins C dx (putF f y fs))) s' → Q () s') : wpAny (model X.prog X.w) A (setAttr (.ref a) f u) Q E s := by
  obtain ⟨mA, O, r, wi, _, ho⟩ := ins_get I.hok e
  have hz : (fs.map (·.1)).length ≤ sizeLine := by rw [List.length_map, sizeLine_eq]; lia
  refine set_map I.kIn O c.sa c.po n.taker c.hd wi hz fun h' O' sb => h _ ?_
  have hd : ∃ o, h'.get? dx = some o := let ⟨o, _, _, e', _⟩ := O'.ns; ⟨o, e'⟩
  refine I.write (x := a) (e := dx) (by rw [e]; exact True.intro) (.inr ho) (fun b q hb z => (sb.2 b hb).trans z) hd ?_
  refine ⟨by rw [upd_ne O.ne]; exact ho, ?_, O.ne, O'.obj, _, O'.ns, fun g => ?_, fun g hg => ?_⟩
  · have := length_putF f y fs; lia
  · show RelO ((putF f y fs).lookup g) (if g = f then some u else mA g)
    rw [lookup_putF]
    by_cases q : g = f
    · rw [if_pos q, if_pos q]; exact ry
    · rw [if_neg q, if_neg q]; exact r g
  · by_cases q : g = f
    · rw [q]; exact (keys_putF f y fs).1
    · refine (keys_putF f y fs).2 g (wi g fun z => hg ?_)
      show (if g = f then some u else mA g) = none
      rw [if_neg q]; exact z
theorem Inv.made (I : Inv X pins σ H s) : Inv X pins σ (upd (upd H s.heap.objs.size (.own (s.heap.objs.size + 1))) (s.heap.objs.size + 1) (.ins C s.heap.objs.size []))
    { s with heap := (s.heap.push PySem.W.emptyDict).push (PySem.W.instObj C s.heap.objs.size) } := by
  have e1 : (s.heap.push PySem.W.emptyDict).get? s.heap.objs.size = some PySem.W.emptyDict := Heap.get?_push_size s.heap rfl
  have e2 : ((s.heap.push PySem.W.emptyDict).push (PySem.W.instObj C s.heap.objs.size)).get? (s.heap.objs.size + 1) = some (PySem.W.instObj C s.heap.objs.size) := by
    have := Heap.get?_push_size (s.heap.push PySem.W.emptyDict) (o := PySem.W.instObj C s.heap.objs.size) rfl
    rwa [Heap.size_push] at this
  have e3 : (s.heap.push PySem.W.emptyDict).Ns s.heap.objs.size (fun _ => none) := ⟨PySem.W.emptyDict, #[], _, e1, rfl, (fun e he => absurd he (by simp)), fun _ => rfl⟩
  have I1 := I.laid (a := s.heap.objs.size) (o := .own (s.heap.objs.size + 1)) (h' := s.heap.push PySem.W.emptyDict) (t' := s.toks) (fun b u q => Heap.get?_push_of_some _ q) (Nat.le_refl _) ⟨_, e1⟩
  refine I1.laid (a := s.heap.objs.size + 1) (o := .ins C s.heap.objs.size []) (t' := s.toks) (fun b u q => Heap.get?_push_of_some _ q) (Nat.le_of_eq (Heap.size_push _ _)) ?_
  have ne : s.heap.objs.size ≠ s.heap.objs.size + 1 := Nat.ne_of_lt (Nat.lt_succ_self _)
  refine ⟨by rw [upd_ne ne, upd_same], Nat.zero_le _, ne, e2, fun _ => none, (Heap.Ns1.of_empty e3).at fun o q => Heap.get?_push_of_some _ q, fun _ => True.intro, fun y hy => absurd rfl hy⟩
theorem attr_of {prog : Program} {w : World} {env : Env} {e : Expr} {f : Str} {pos : Pos} {s : Shared} {Q : Value → Shared → Prop} (hb : attributeBase e f env (eval e env) = eval e env)
    (h : wpAny (model prog w) A (eval e env) (fun o s₁ => wpAny (model prog w) A (getAttr o f true) Q E s₁) E s) : wpAny (model prog w) A (eval (.Attribute e f pos) env) Q E s :=
  Attribute_any_ h (by rw [arm_eval_Attribute, hb])
end
noncomputable def tFld (K : PySem.W.Frag) (ta : TE) (f : Str) : TE := fun σ H Q => ta σ H fun x H1 => ∃ a C dx fs v, x = .ref a ∧ H1 a = some (.ins C dx fs) ∧ Cls K C ∧ NoAttr K C f ∧ fs.lookup f = some v ∧ Q v H1
noncomputable def sFld (K : PySem.W.Frag) (ta tv : TE) (f : Str) : TS := fun D σ H => tv σ H fun y H1 => ta σ H1 fun x H2 => ∃ a C dx fs, x = .ref a ∧ H2 a = some (.ins C dx fs) ∧ Cls K C ∧ NoAttr K C f ∧ fs.length < 1000 ∧
  D.nx σ (upd H2 a (.ins C dx (putF f y fs)))
section
variable {X : Cx} {o e value : Expr} {f : Str} {pos pos' tpos : Pos} {ta tv : TE}
theorem pe_fld (he : PE X e ta) (hb : attributeBase e f X.env (eval e X.env) = eval e X.env) : PE X (.Attribute e f pos) (tFld X.K ta f) := by
  intro pins s σ H Q I h
  refine attr_of hb (thn (he pins s σ H _ I h) fun u s1 hh => ?_)
  obtain ⟨x, H1, I1, rx, a, C, dx, fs, v, ex, ea, c, n, l, q⟩ := hh
  subst ex
  obtain rfl : u = Value.ref a := rx
  exact getattr_ok I1 ea c n l fun u' s2 I2 ru => ⟨v, H1, I2, ru, q⟩
theorem ps_fld (ha : PE X o ta) (hv : PE X value tv) (hs : swapsWith value (some (.Attribute o f pos')) pos.line X.env = pure false) : PS X (.Assign [.Attribute o f pos'] value pos) (sFld X.K ta tv f) := by
  intro pins s σ H D I h
  refine plainObj_wpAny_Assign_Attribute (thn (hv pins s σ H _ I h) fun u s1 ⟨y, H1, I1, ry, q⟩ => thn (ha pins s1 σ H1 _ I1 q) fun ov s2 ⟨x, H2, I2, rx, a, C, dx, fs, ex, ea, c, n, l, q2⟩ => ?_) hs
  subst ex
  obtain rfl : ov = Value.ref a := rx
  exact setattr_ok I2 ea c n l ry fun s3 I3 => ⟨σ, _, I3, q2⟩
noncomputable def rAdd : V → V → Hp → VK → Prop := fun x y H Q => ∃ i j, x = .int i ∧ y = .int j ∧ Q (.int (i + j)) H
noncomputable def rSub : V → V → Hp → VK → Prop := fun x y H Q => ∃ i j, x = .int i ∧ y = .int j ∧ Q (.int (i - j)) H
end
section
variable {X : Cx} {pins : List (Addr × Obj)} {σ : St} {H : Hp} {s : Shared} {A : Around} {E : Value → Shared → Prop} {Q : Value → Shared → Prop} {c : Value} {b : Bool}
inductive TyOf (K : PySem.W.Frag) (H : Hp) : V → Value → Prop where
  | non : TyOf K H .non (.type "NoneType")
  | bl (x : Bool) : TyOf K H (.bl x) (.type "bool")
  | int (i : Int) : TyOf K H (.int i) (.type "int")
  | str (x : Str) : TyOf K H (.str x) (.type "str")
  | flt (x : UInt64) : TyOf K H (.flt x) (.type "float")
  | lst {a : Addr} {xs : List V} (e : H a = some (.lst xs)) : TyOf K H (.ref a) (.type "list")
  | frz {a : Addr} {o : Obj} {xs : List V} (e : H a = some (.frz o (.lst xs))) : TyOf K H (.ref a) (.type "list")
  | tup {a : Addr} {xs : List V} (e : H a = some (.tup xs)) : TyOf K H (.ref a) (.type "tuple")
  | dK {a : Addr} {kvs : List (Key × V)} (e : H a = some (.dK kvs)) : TyOf K H (.ref a) (.type "dict")
  | dT {a : Addr} {kvs : List (List Key × V)} (e : H a = some (.dT kvs)) : TyOf K H (.ref a) (.type "dict")
  | ins {a C dx : Addr} {fs : List (Str × V)} (e : H a = some (.ins C dx fs)) (cl : Cls K C) (ha : PySem.W.findIn K (.ref C) "__class__" = some (some (.builtin "object.__class__")))
      (hn : PySem.W.specialIn K (.builtin "object.__class__") "__get__" = some (some (.builtin "getset_descriptor.__get__"))) (htk : PySem.W.takesIn K (.builtin "object.__class__") = some true)
      (hm : PySem.W.mroIn K C (.type "object") = some true) : TyOf K H (.ref a) (.ref C)
end
end L2
namespace L2
open PySem PySem.Spec PyProof.Rows
structure Room (k : Nat) (A : Around) : Prop where
  hd : A.handled = none
  dp : A.depth + 3 * k + 5 < recursionLimit
  un : A.units + 16 * k + 200 < cLine
  gd : A.guards = some [] := by rfl
theorem Room.mono {j k : Nat} {A : Around} (r : Room k A) (h : j ≤ k) : Room j A := ⟨r.hd, by have := r.dp; lia, by have := r.un; lia, r.gd⟩
theorem Room.deeper {k : Nat} {A : Around} (r : Room (k + 1) A) (env : Env) : Room k (A.deeper env) :=
  ⟨r.hd, by have := r.dp; show A.depth + 1 + 3 * k + 5 < _; lia, by have := r.un; show A.units + 3 + 16 * k + 200 < _; lia, r.gd⟩
theorem make_depth {A : Around} {C : Addr} {us : List Value} {kw : List (Str × Value)} : (A.under (.builtin "type.__call__" ⟨.ref C :: us, kw⟩)).depth = A.depth + 1 := by
  first | rfl | simp [Around.under, Code.weight, Code.isCreation, Code.isGuard, Code.isCaller, Code.frames, Code.isFrame, guardIds]
theorem make_units {A : Around} {C : Addr} {us : List Value} {kw : List (Str × Value)} : (A.under (.builtin "type.__call__" ⟨.ref C :: us, kw⟩)).units = A.units + 1 := by
  first | rfl | simp [Around.under, Code.cUnits, Code.frames, Code.isFrame]
theorem Room.make {k : Nat} {A : Around} (r : Room (k + 1) A) (C : Addr) (us : List Value) (kw : List (Str × Value)) : Room k (A.under (.builtin "type.__call__" ⟨.ref C :: us, kw⟩)) :=
  ⟨r.hd, by have := r.dp; rw [make_depth]; lia, by have := r.un; rw [make_units]; lia, by
    have e : (Code.builtin "type.__call__" ⟨.ref C :: us, kw⟩).guards = [] := by unfold Code.guards; rw [if_neg]; show ¬ guardIds.contains "type.__call__" = true; decide +kernel
    unfold Around.under
    dsimp only
    rw [e]; exact r.gd⟩
theorem Room.depth {k : Nat} {A : Around} (r : Room k A) : A.depth < recursionLimit := by have := r.dp; lia
theorem Room.units {k : Nat} {A : Around} (r : Room k A) : A.units + 64 < cLine := by have := r.un; lia
noncomputable def tNil : TA := fun _ H Q => Q [] H
noncomputable def tCons (ta : TE) (tr : TA) : TA := fun σ H Q => ta σ H fun x H1 => tr σ H1 fun xs H2 => Q (x :: xs) H2
section
variable {X : Cx} {e : Expr} {es : List Expr} {te : TE} {t : TA} {pos : Pos}
theorem pa_nil : PA X [] tNil := fun _ _ _ _ H Q I h => Calls.spliced_nil ⟨[], H, I, .nil, h⟩
theorem pa_cons (ha : PE X e te) (hr : PA X es t) (hs : starEach (e :: es) X.env = (false, eval e X.env) :: starEach es X.env := by rfl) : PA X (e :: es) (tCons te t) := by
  intro pos pins s σ H Q I h
  rw [hs]
  show wpAny _ _ (spliced ((false, eval e X.env) :: backTo pos (starEach es X.env))) _ _ s
  refine Calls.spliced_cons (thn (ha pins s σ H _ I h) fun u s1 hh => ?_)
  obtain ⟨x, H1, I1, r1, q1⟩ := hh
  exact thn (hr pos pins s1 σ H1 _ I1 q1) fun us s2 ⟨xs, H2, I2, r2, q2⟩ => ⟨x :: xs, H2, I2, .cons r1 r2, q2⟩
end
noncomputable abbrev Sp := List V → Hp → VK → XK → Prop
noncomputable abbrev CXT := List Env → Hp → Shared → XK → Value → Shared → Prop
structure Env0 (P : Program) (w : World) (K : PySem.W.Frag) (mg : Str → Option Value) (base : Heap) (A : Around) (outer : List Env) (s : Shared) (H : Hp) : Prop where
  frames : A.frames = some outer
  mod : Mod K mg base
  bs : ∀ b o, base.get? b = some o → s.heap.get? b = some o ∧ H b = none
  bsz : base.objs.size ≤ s.heap.objs.size
  funs : s.heap.FunFrames base outer
  frf : ∀ b ∈ frs outer, H b = none
  hok : HOk P w H s.heap
  bare : AllBare s.gens
noncomputable def CE (outer : List Env) (P : Program) (w : World) (H : Hp) (s : Shared) (Q : VK) (u : Value) (s' : Shared) : Prop :=
  ∃ v H', s'.os = s.os ∧ AllBare s'.gens ∧ Un (frs outer) [] H H' s.heap s'.heap ∧ HOk P w H' s'.heap ∧ RelV v u ∧ Q v H'
noncomputable def CR (CX : CXT) (outer : List Env) (P : Program) (w : World) (H : Hp) (s : Shared) (Q : VK) (E : XK) (r : Result) (s' : Shared) : Prop :=
  match r with
  | .ok (.ret u) => CE outer P w H s Q u s'
  | .ok _ => False
  | .error e => CX outer H s E e s'
structure FnOk (P : Program) (w : World) (K : PySem.W.Frag) (mg : Str → Option Value) (base : Heap) (CX : CXT) (k : Nat) (f : Addr) (fd : FuncData) (ps : List Str) (sp : Sp) : Prop where
  len : ∀ vs H Q E, sp vs H Q E → vs.length = ps.length
  run : ∀ (A : Around) (outer : List Env) (s : Shared) (H : Hp) (args : Args) (us : List Value) (vs : List V) (Q : VK) (E : XK), Room k A → Env0 P w K mg base A outer s H → BindsTo s fd args (ps.zip us) → Vals vs us → sp vs H Q E →
    codeAny (model P w) A (.call (.ref f) args) (CR CX outer P w H s Q E) s
theorem FnOk.mono {P : Program} {w : World} {K : PySem.W.Frag} {mg : Str → Option Value} {base : Heap} {CX : CXT} {j k : Nat} {f : Addr} {fd : FuncData} {ps : List Str} {sp : Sp} (F : FnOk P w K mg base CX j f fd ps sp) (h : j ≤ k) :
    FnOk P w K mg base CX k f fd ps sp := ⟨F.len, fun A outer s H args us vs Q E hr => F.run A outer s H args us vs Q E (hr.mono h)⟩
theorem Env0.make {P : Program} {w : World} {K : PySem.W.Frag} {mg : Str → Option Value} {base : Heap} {A : Around} {outer : List Env} {s : Shared} {H : Hp} (e : Env0 P w K mg base A outer s H) (C : Addr) (us : List Value) (kw : List (Str × Value)) :
    Env0 P w K mg base (A.under (.builtin "type.__call__" ⟨.ref C :: us, kw⟩)) outer s H := ⟨by first | exact e.frames | (simpa [Around.under, Code.envs, Code.isFrame, pushEnvs] using e.frames), e.mod, e.bs, e.bsz, e.funs, e.frf, e.hok, e.bare⟩
section
variable {X : Cx} {pins : List (Addr × Obj)} {σ : St} {H : Hp} {s s' : Shared}
theorem Inv.env0 (I : Inv X pins σ H s) : Env0 X.prog X.w X.K X.mg X.base X.A X.stack s H :=
  ⟨I.ok.frames, I.ok.mod, I.bs, Nat.le_trans I.ok.bsz I.sz, I.stack, I.stkFree, I.hok, I.bare⟩
theorem Inv.after {Q : VK} {u : Value} (I : Inv X pins σ H s) (h : CE X.stack X.prog X.w H s Q u s') : EP X pins σ Q u s' := by
  obtain ⟨v, H', os, bare, un, hok, r, q⟩ := h
  obtain ⟨hh, g, d, t, os'⟩ := s'
  obtain rfl : os' = s.os := os
  exact ⟨v, H', I.call (h' := hh) (g' := g) (d' := d) (t' := t) (ch := []) un hok bare (fun b z => absurd z (by simp)), r, q⟩
end
noncomputable def tCall (sp : Sp) (dvs : List V) (E : XK) (t : TA) : TE := fun σ H Q => t σ H fun vs H1 => sp (vs ++ dvs) H1 Q E
noncomputable def tMeth (C : Addr) (m : Str) (sp : Sp) (dvs : List V) (E : XK) (ta : TE) (t : TA) : TE := fun σ H Q => ta σ H fun x H1 => ∃ a dx fs, x = .ref a ∧ H1 a = some (.ins C dx fs) ∧ fs.lookup m = none ∧
  t σ H1 fun vs H2 => sp (x :: (vs ++ dvs)) H2 Q E
noncomputable def tMake (C : Addr) (sp : Sp) (dvs : List V) (E : XK) (t : TA) : TE := fun σ H Q => t σ H fun vs H1 => ∀ x dx, H1 x = none → H1 dx = none → dx ≠ x →
  sp (.ref x :: (vs ++ dvs)) (upd (upd H1 dx (.own x)) x (.ins C dx [])) (fun v H2 => v = .non ∧ Q (.ref x) H2) E
noncomputable def Binds (K : PySem.W.Frag) (fd : FuncData) (ps : List Str) (ds : List Value) : Prop :=
  ∀ (s : Shared) (us : List Value), K.In s.heap → (us ++ ds).length = ps.length → BindsTo s fd ⟨us, []⟩ (ps.zip (us ++ ds))
theorem Binds.all {K : PySem.W.Frag} {fd : FuncData} {ps : List Str} (h : ∀ us : List Value, us.length = ps.length → bindArgs fd ⟨us, []⟩ = pure (ps.zip us)) : Binds K fd ps [] := fun s us _ hl => by
  rw [List.append_nil] at hl ⊢
  exact .of_eq (h us hl)
noncomputable def Passes (CX : CXT) (X : Cx) (E : XK) : Prop := ∀ (pins : List (Addr × Obj)) (σ : St) (H : Hp) (s : Shared) (e : Value) (s' : Shared), Inv X pins σ H s → CX X.stack H s E e s' → X.xe e s'
section
variable {X : Cx} {CX : CXT} {k : Nat} {f C : Addr} {fd : FuncData} {ps : List Str} {sp : Sp} {dvs : List V} {ds : List Value} {E : XK} {x m : Str} {p pos apos : Pos} {e o : Expr} {es : List Expr} {ta : TE} {t : TA}
theorem run_fn {pins : List (Addr × Obj)} {σ : St} {H : Hp} {s : Shared} {Q : VK} {us : List Value} {vs : List V} (F : FnOk X.prog X.w X.K X.mg X.base CX k f fd ps sp) (hr : Room k X.A) (hb : Binds X.K fd ps ds) (hd : Vals dvs ds) (hx : Passes CX X E)
    (I : Inv X pins σ H s) (r : Vals vs us) (h : sp (vs ++ dvs) H Q E) : wpAny (model X.prog X.w) X.A (call (.ref f) us) (EP X pins σ Q) X.xe s := by
  have r2 : Vals (vs ++ dvs) (us ++ ds) := r.append hd
  have hl : (us ++ ds).length = ps.length := by rw [← r2.length]; exact F.len _ _ _ _ h
  refine wpAny_call (codeAny_mono (F.run X.A X.stack s H ⟨us, []⟩ (us ++ ds) (vs ++ dvs) Q E hr I.env0 (hb s us I.kIn hl) r2 h) fun r s' hq => ?_)
  cases r with
  | error e => exact hx pins σ H s e s' I hq
  | ok fl =>
    cases fl with
    | ret u => exact I.after hq
    | next => exact False.elim hq
    | brk => exact False.elim hq
    | cont => exact False.elim hq
theorem pe_call (F : FnOk X.prog X.w X.K X.mg X.base CX k f fd ps sp) (hr : Room k X.A) (hg : Gl X x) (hm : X.mg x = some (.ref f)) (hk : PySem.W.keepIn X.K (.ref f) = true) (hb : Binds X.K fd ps ds) (hd : Vals dvs ds) (hx : Passes CX X E)
    (ha : PA X (e :: es) t) (hdb : (x == ("__debug__" : Str)) = false := by decide) (he : starEach (e :: es) X.env = (false, eval e X.env) :: starEach es X.env := by rfl) (hpl : (backTo pos (starEach es X.env)).any (·.1) = false := by rfl) :
    PE X (.Call (.Name x p) (e :: es) [] pos) (tCall sp dvs E t) := by
  intro pins s σ H Q I h
  refine wpAny_Call_Name_kw (ld_glob I hg hm ?_ hdb)
  refine PySem.W.callWith_K (h₀ := X.base) I.ok.mod.kin hk (thn (ha pos pins s σ H _ I h) fun us s1 ⟨vs, H1, I1, r, q⟩ => ⟨I1.kIn, ?_⟩) he hpl
  exact run_fn F hr hb hd hx I1 r q
theorem pe_meth {pl : Sem Bool} (he : PE X o ta) (c : Cls X.K C) (hm : Meth X.K C m f) (F : FnOk X.prog X.w X.K X.mg X.base CX k f fd ps sp) (hr : Room k X.A) (hb : Binds X.K fd ps ds) (hd : Vals dvs ds) (hx : Passes CX X E) (ha : PA X (e :: es) t)
    (hst : starEach (e :: es) X.env = (false, eval e X.env) :: starEach es X.env := by rfl) (hpl : (backTo pos (starEach es X.env)).any (·.1) = false := by rfl)
    (ht : eval (.Call (.Attribute o m apos) (e :: es) [] pos) X.env = (do
      let ov ← eval o X.env
      standAt apos.atName
      let (f, first) ← holding [ov] (getMethod ov m pl)
      callWith pos f first (backTo pos (starEach (e :: es) X.env)) (backToKw pos (keywordEach [] X.env))) := by rfl) :
    PE X (.Call (.Attribute o m apos) (e :: es) [] pos) (tMeth C m sp dvs E ta t) := by
  intro pins s σ H Q I h
  refine PySem.W.methodCall_KW (pl := pl) (thn (he pins s σ H _ I h) fun u s1 ⟨x, H1, I1, rx, a, dx, fs, ex, ea, l, q⟩ => ?_) ht
  subst ex
  obtain rfl : u = Value.ref a := rx
  refine getmeth_ok I1 ea c hm l ?_
  refine PySem.W.callWith_K (first := [.ref a]) (h₀ := X.base) I.ok.mod.kin hm.kp (thn (ha pos pins s1 σ H1 _ I1 q) fun us s2 ⟨vs, H2, I2, r, q2⟩ => ⟨I2.kIn, ?_⟩) hst hpl
  exact run_fn (us := .ref a :: us) (vs := .ref a :: vs) F hr hb hd hx I2 (.cons rfl r) q2
theorem pe_meth0 {pl : Sem Bool} (he : PE X o ta) (c : Cls X.K C) (hm : Meth X.K C m f) (F : FnOk X.prog X.w X.K X.mg X.base CX k f fd ps sp) (hr : Room k X.A) (hb : Binds X.K fd ps ds) (hd : Vals dvs ds) (hx : Passes CX X E)
    (ht : eval (.Call (.Attribute o m apos) [] [] pos) X.env = (do
      let ov ← eval o X.env
      standAt apos.atName
      let (f, first) ← holding [ov] (getMethod ov m pl)
      callWith pos f first (backTo pos (starEach [] X.env)) (backToKw pos (keywordEach [] X.env))) := by rfl) :
    PE X (.Call (.Attribute o m apos) [] [] pos) (tMeth C m sp dvs E ta tNil) := by
  intro pins s σ H Q I h
  refine PySem.W.methodCall_KW (pl := pl) (thn (he pins s σ H _ I h) fun u s1 ⟨x, H1, I1, rx, a, dx, fs, ex, ea, l, q⟩ => ?_) ht
  subst ex
  obtain rfl : u = Value.ref a := rx
  refine getmeth_ok I1 ea c hm l ?_
  exact PySem.W.callWith_K0 (first := [.ref a]) I1.kIn hm.kp (run_fn (us := [.ref a]) (vs := [.ref a]) F hr hb hd hx I1 (.cons rfl .nil) q)
structure Mk (K : PySem.W.Frag) (C f : Addr) : Prop where
  makes : PySem.W.makesIn K C = true
  init : PySem.W.findIn K (.ref C) "__init__" = some (some (.ref f))
  fn : PySem.W.isFn K (.ref f) = true
  kp : PySem.W.keepIn K (.ref C) = true
theorem run_make {pins : List (Addr × Obj)} {σ : St} {H : Hp} {s : Shared} {Q : VK} {us : List Value} {vs : List V} (M : Mk X.K C f) (F : FnOk X.prog X.w X.K X.mg X.base CX k f fd ps sp) (hr : Room (k + 1) X.A) (hb : Binds X.K fd ps ds) (hd : Vals dvs ds)
    (hx : Passes CX X E) (I : Inv X pins σ H s) (r : Vals vs us)
    (h : ∀ x dx, H x = none → H dx = none → dx ≠ x → sp (.ref x :: (vs ++ dvs)) (upd (upd H dx (.own x)) x (.ins C dx [])) (fun v H2 => v = .non ∧ Q (.ref x) H2) E) :
    wpAny (model X.prog X.w) X.A (call (.ref C) us) (EP X pins σ Q) X.xe s := by
  have hq := h (s.heap.objs.size + 1) s.heap.objs.size (I.hok.fresh (Nat.le_succ _)) (I.hok.fresh (Nat.le_refl _)) (Nat.ne_of_lt (Nat.lt_succ_self _))
  have I2 := Inv.made (C := C) I
  have r2 : Vals (V.ref (s.heap.objs.size + 1) :: (vs ++ dvs)) (Value.ref (s.heap.objs.size + 1) :: (us ++ ds)) := .cons rfl (r.append hd)
  have hl : (Value.ref (s.heap.objs.size + 1) :: us ++ ds).length = ps.length := by
    have e := r2.length
    rw [F.len _ _ _ _ hq] at e
    exact e.symm
  refine wpAny_call (make_map (f := f) I.kIn M.makes M.init (beq_iff_eq.mp M.fn) (codeAny_mono (F.run _ X.stack _ _ ⟨Value.ref (s.heap.objs.size + 1) :: us, []⟩ (Value.ref (s.heap.objs.size + 1) :: (us ++ ds)) _ _ E (hr.make C us [])
    (I2.env0.make C us []) (hb _ (Value.ref (s.heap.objs.size + 1) :: us) I2.kIn hl) r2 hq) fun r s' hq' => ?_))
  cases r with
  | error e => exact hx pins σ _ _ e s' I2 hq'
  | ok fl =>
    cases fl with
    | ret u =>
      obtain ⟨v, H', I3, rv, ev, q3⟩ := I2.after hq'
      subst ev
      exact ⟨rv, ⟨V.ref (s.heap.objs.size + 1), H', I3, rfl, q3⟩⟩
    | next => exact False.elim hq'
    | brk => exact False.elim hq'
    | cont => exact False.elim hq'
theorem pe_make (M : Mk X.K C f) (F : FnOk X.prog X.w X.K X.mg X.base CX k f fd ps sp) (hr : Room (k + 1) X.A) (hg : Gl X x) (hm : X.mg x = some (.ref C)) (hb : Binds X.K fd ps ds) (hd : Vals dvs ds) (hx : Passes CX X E)
    (ha : PA X (e :: es) t) (hdb : (x == ("__debug__" : Str)) = false := by decide) (he : starEach (e :: es) X.env = (false, eval e X.env) :: starEach es X.env := by rfl) (hpl : (backTo pos (starEach es X.env)).any (·.1) = false := by rfl) :
    PE X (.Call (.Name x p) (e :: es) [] pos) (tMake C sp dvs E t) := by
  intro pins s σ H Q I h
  refine wpAny_Call_Name_kw (ld_glob I hg hm ?_ hdb)
  refine PySem.W.callWith_K (h₀ := X.base) I.ok.mod.kin M.kp (thn (ha pos pins s σ H _ I h) fun us s1 ⟨vs, H1, I1, r, q⟩ => ⟨I1.kIn, ?_⟩) he hpl
  exact run_make M F hr hb hd hx I1 r q
end
section
variable {X : Cx} {CX : CXT} {k : Nat} {f C : Addr} {fd : FuncData} {ps ks : List Str} {sp : Sp} {E : XK} {x m : Str} {p pos apos kpos : Pos} {e o : Expr} {es : List Expr} {kws : List Keyword} {te ta : TE} {t tk : TA} {nm : Option Str}
variable {g : List Value → List Value → List Value} {gV : List V → List V → List V}
end
structure FnScope (N P : List Str) (sc : Scope) : Prop where
  kind : sc.kind = .function
  co : sc.isCoroutine = false
  gen : sc.isGenerator = false
  nd : N.Nodup
  pre : N.take P.length = P
  par : ∀ x ∈ P, sc.names.lookup x = some .local ∨ sc.names.lookup x = some .cell
  nofree : ∀ y ∈ sc.names, y.2 ≠ .free
theorem bindL_out {kindOf : Str → Option NameKind} {x : Str} : ∀ {binds : List (Str × Value)} {m : Str → Option Value}, (∀ v, (x, v) ∉ binds) → bindL kindOf binds m x = m x
  | [], _, _ => rfl
  | (n, v) :: r, m, h => by
    unfold bindL
    rw [bindL_out fun w hw => h w (List.mem_cons_of_mem _ hw)]
    split
    · have : x ≠ n := by rintro rfl; exact h v List.mem_cons_self
      simp [this]
    · rfl
theorem bindC_out {kindOf : Str → Option NameKind} {x : Str} : ∀ {binds : List (Str × Value)} {m : Str → Option Value}, (∀ v, (x, v) ∉ binds) → bindC kindOf binds m x = m x
  | [], _, _ => rfl
  | (n, v) :: r, m, h => by
    unfold bindC
    rw [bindC_out fun w hw => h w (List.mem_cons_of_mem _ hw)]
    split
    · rfl
    · have : x ≠ n := by rintro rfl; exact h v List.mem_cons_self
      simp [this]
theorem bindL_get {kindOf : Str → Option NameKind} {x : Str} {v : Value} : ∀ {P : List Str} {vs : List Value} {i : Nat} {m : Str → Option Value}, P.Nodup → P[i]? = some x → vs[i]? = some v → kindOf x = some .local →
    bindL kindOf (P.zip vs) m x = some v
  | [], _, _, _, _, h, _, _ => by simp at h
  | _ :: _, [], _, _, _, _, h, _ => by simp at h
  | p :: P, w :: vs, 0, m, nd, h1, h2, hk => by
    simp at h1 h2; subst h1; subst h2
    show bindL kindOf ((p, w) :: P.zip vs) m p = _
    unfold bindL
    rw [bindL_out fun v hv => (List.nodup_cons.mp nd).1 (List.of_mem_zip hv).1, if_pos hk]
    simp
  | p :: P, w :: vs, i + 1, m, nd, h1, h2, hk => by
    show bindL kindOf ((p, w) :: P.zip vs) m x = _
    unfold bindL
    exact bindL_get (i := i) (List.nodup_cons.mp nd).2 (by simpa using h1) (by simpa using h2) hk
theorem bindC_get {kindOf : Str → Option NameKind} {x : Str} {v : Value} : ∀ {P : List Str} {vs : List Value} {i : Nat} {m : Str → Option Value}, P.Nodup → P[i]? = some x → vs[i]? = some v → kindOf x ≠ some .local →
    bindC kindOf (P.zip vs) m x = some v
  | [], _, _, _, _, h, _, _ => by simp at h
  | _ :: _, [], _, _, _, _, h, _ => by simp at h
  | p :: P, w :: vs, 0, m, nd, h1, h2, hk => by
    simp at h1 h2; subst h1; subst h2
    show bindC kindOf ((p, w) :: P.zip vs) m p = _
    unfold bindC
    rw [bindC_out fun v hv => (List.nodup_cons.mp nd).1 (List.of_mem_zip hv).1, if_neg hk]
    simp
  | p :: P, w :: vs, i + 1, m, nd, h1, h2, hk => by
    show bindC kindOf ((p, w) :: P.zip vs) m x = _
    unfold bindC
    exact bindC_get (i := i) (List.nodup_cons.mp nd).2 (by simpa using h1) (by simpa using h2) hk
noncomputable def start (N : List Str) (vs : List V) : St := vs.map some ++ List.replicate (N.length - vs.length) none
noncomputable def cxOf (CX : CXT) (P : Program) (w : World) (K : PySem.W.Frag) (mg : Str → Option Value) (base : Heap) (N : List Str) (qual : Str) (scope : Scope) (f : Addr) (cd : Value) (A : Around) (outer : List Env) (s : Shared) (H : Hp) (E : XK) : Cx where
  prog := P
  w := w
  K := K
  mg := mg
  base := base
  A := A.deeper (envOfC qual scope s.heap.objs.size f cd)
  N := N
  s₀ := s
  H₀ := H
  env := envOfC qual scope s.heap.objs.size f cd
  outer := outer
  stack := envOfC qual scope s.heap.objs.size f cd :: outer
  ex := []
  calm := true
  fn := fun _ => true
  pn := []
  xe := fun e s' => wpAny (model P w) (A.deeper (envOfC qual scope s.heap.objs.size f cd)) (leaving (envOfC qual scope s.heap.objs.size f cd) e) (fun _ s'' => CX outer H s E e s'') (fun e' s'' => CX outer H s E e' s'') s'
theorem cell_has {sc : Scope} {n : Nat} {x : Str} (h : sc.names.lookup x = some .cell) : ∃ c, (cellsFrom n sc.names []).lookup x = some c := by
  have q := PySem.W.cellsFrom_some sc.names n [] (.inl h)
  exact Option.isSome_iff_exists.mp q
theorem inv_start {CX : CXT} {P : Program} {w : World} {K : PySem.W.Frag} {mg : Str → Option Value} {base : Heap} {N ps : List Str} {qual : Str} {scope : Scope} {f : Addr} {cd : Value} {A : Around} {outer : List Env} {s s1 : Shared} {H : Hp} {E : XK} {us : List Value} {vs : List V}
    (S : FnScope N ps scope) (hd : A.handled = none) (e0 : Env0 P w K mg base A outer s H) (hl : vs.length = ps.length) (r : Vals vs us)
    (x : InCallC s s.heap.objs.size (bindL (envOfC qual scope s.heap.objs.size f cd).kindOf (ps.zip us) fun _ => none) (cellsFrom (s.heap.objs.size + 1) scope.names []) (bindC (envOfC qual scope s.heap.objs.size f cd).kindOf (ps.zip us) fun _ => none) s1) :
    Inv (cxOf CX P w K mg base N qual scope f cd A outer s H E) [] (start N vs) H s1 := by
  have hpl : ps.length ≤ N.length := by have := congrArg List.length S.pre; rw [List.length_take] at this; lia
  obtain ⟨h1, tk, rfl, hk⟩ := x.done
  have noA : ∀ b : Addr, b ∉ (cxOf CX P w K mg base N qual scope f cd A outer s H E).ex := fun b z => absurd (show b ∈ ([] : List Addr) from z) (by simp)
  refine ⟨⟨e0.mod, S.kind, rfl, rfl, Nat.le_refl _, fun y z c h1 h2 => ?_, fun y hy => ?_, fun y c _ h => ?_, fun _ => hd, Around.frames_deeper e0.frames, .inr ⟨rfl, rfl⟩, fun b z => absurd z (noA b), e0.bs, e0.bsz, fun b _ _ => noA b, fun b z => absurd z (noA b), e0.funs, e0.frf⟩,
    rfl, e0.bare, Un.kept hk, ⟨_, x.toInCall.ns, fun i y v h1 h2 h3 => ?_⟩, fun y c h => ⟨_, x.cell y c h⟩, e0.hok.fresh (Nat.le_refl _), fun y c h => ?_, fun p hp => absurd (show p ∈ ([] : List (Addr × Obj)) from hp) (by simp), e0.hok.kept hk, ?_⟩
  · exact name_of_addr x.apart (PySem.mem_of_lookup h1) (PySem.mem_of_lookup h2)
  · have hy : scope.names.lookup y = some .cell ∨ scope.names.lookup y = some .free := hy
    rcases hy with hy | hy
    · exact cell_has hy
    · exact absurd rfl (S.nofree _ (PySem.mem_of_lookup hy))
  · exact Nat.le_of_lt (x.above y c (PySem.mem_of_lookup h))
  · have hi : i < vs.length := by
      unfold start at h2
      by_cases hi : i < vs.length
      · exact hi
      · rw [List.getElem?_append_right (by simpa using hi)] at h2
        rw [List.getElem?_replicate] at h2
        split at h2 <;> cases h2
    have ha : vs[i]? = some v := by
      unfold start at h2
      rw [List.getElem?_append_left (by simpa using hi), List.getElem?_map] at h2
      cases e : vs[i]? with
      | none => rw [e] at h2; cases h2
      | some a => rw [e] at h2; cases h2; rfl
    obtain ⟨u, hu, rv⟩ := r.get ha
    have hp : ps[i]? = some y := by
      rw [← S.pre, List.getElem?_take_of_lt (by lia)]; exact h1
    have ndP : ps.Nodup := by rw [← S.pre]; exact S.nd.sublist (List.take_sublist _ _)
    refine ⟨u, rv, ?_⟩
    rcases S.par y (List.mem_of_getElem? hp) with k | k
    · exact .inl ⟨k, bindL_get ndP hp hu k⟩
    · obtain ⟨c, e⟩ := cell_has (n := s.heap.objs.size + 1) k
      refine .inr ⟨.inl k, c, e, ?_⟩
      have q := x.cell y c e
      rw [bindC_get ndP hp hu (by show scope.names.lookup y ≠ _; rw [k]; decide)] at q
      exact q
  · exact e0.hok.fresh (Nat.le_of_lt (x.above y c (PySem.mem_of_lookup h)))
  · unfold start
    show _ = N.length
    rw [List.length_append, List.length_map, List.length_replicate]
    lia
theorem fn_of {CX : CXT} {P : Program} {w : World} {K : PySem.W.Frag} {mg : Str → Option Value} {base : Heap} {k : Nat} {f : Addr} {name qual : Str} {params : Arguments} {body : List Stmt} {scope : Scope} {dV kV doc pm cdv ct oc : Value} {an od : Option Addr}
    {osl : Array (Option Value)} {N ps : List Str} {sp : Sp} (lk : K.lookup f = some ⟨oc, od, .func (PySem.W.fnOf name qual params body scope dV kV doc pm an cdv ct), osl⟩) (hcd : PySem.W.codeIn K cdv qual = true) (S : FnScope N ps scope)
    (len : ∀ vs H Q E, sp vs H Q E → vs.length = ps.length)
    (hbody : ∀ (A : Around) (outer : List Env) (s : Shared) (H : Hp) (vs : List V) (Q : VK) (E : XK), Room k (A.deeper (envOfC qual scope s.heap.objs.size f cdv)) → sp vs H Q E →
      ∃ t, PSs (cxOf CX P w K mg base N qual scope f cdv A outer s H E) body t ∧ t { nx := fun _ H' => Q .non H', rt := Q } (start N vs) H) :
    FnOk P w K mg base CX (k + 1) f (PySem.W.fnOf name qual params body scope dV kV doc pm an cdv ct) ps sp := by
  refine ⟨len, fun A outer s H args us vs Q E hr e0 hb r hsp => ?_⟩
  have hl := len _ _ _ _ hsp
  have KX : K.In s.heap := e0.mod.kin.keeps fun b o e => (e0.bs b o e).1
  have lim : s.heap.NoLimit := e0.mod.nolimit.keeps fun b o e => (e0.bs b o e).1
  have hkind : ∀ y ∈ ps.zip us, scope.names.lookup y.1 = some .local ∨ (scope.names.lookup y.1 = some .cell ∧ ((cellsFrom (s.heap.objs.size + 1) scope.names []).lookup y.1).isSome = true) := fun ⟨n, v⟩ hy => by
    rcases S.par n (List.of_mem_zip hy).1 with q | q
    · exact .inl q
    · exact .inr ⟨q, PySem.W.cellsFrom_some _ _ _ (.inl q)⟩
  refine codeAny_call_function hr.depth (KX _ _ lk) rfl S.co S.gen rfl (PySem.W.codeRec_of KX hcd) (hb _ _ _ _ ?_)
  refine wpAny_newFunctionEnv_cells S.kind hkind fun env he s1 x => ?_
  subst he
  refine ⟨lim.keeps x.toInCall.keep, codeAny_func ?_⟩
  obtain ⟨t, ht, hq⟩ := hbody A outer s H vs Q E (hr.deeper _) hsp
  have I : Inv (cxOf CX P w K mg base N qual scope f cdv A outer s H E) [] (start N vs) H s1 := inv_start S hr.hd e0 hl r x
  refine wpAny_mono (ht [] s1 (start N vs) H _ I hq) (fun fl s' hs => ?_) fun e s' hs => hs
  have fin : ∀ {σ' : St} {H' : Hp} {v : V} {u : Value}, Inv (cxOf CX P w K mg base N qual scope f cdv A outer s H E) [] σ' H' s' → RelV v u → Q v H' → CE outer P w H s Q u s' :=
    fun {σ' H' v u} J rv q => ⟨v, H', J.os, J.bare, J.base, J.hok, rv, q⟩
  cases fl with
  | ret u =>
    obtain ⟨v, σ', H', J, rv, q⟩ := hs
    exact fin J rv q
  | next =>
    obtain ⟨σ', H', J, q⟩ := hs
    exact fin (v := V.non) (u := Value.none) J rfl q
  | brk =>
    obtain ⟨_, _, _, q⟩ := hs
    exact False.elim q
  | cont =>
    obtain ⟨_, _, _, q⟩ := hs
    exact False.elim q
end L2
namespace L2
open PySem PySem.Spec PyProof.Rows
section
variable {X : Cx} {x : Str} {p pos : Pos} {e : Expr} {es : List Expr} {t : TA} {id T : String} {r : List V → Hp → VK → Prop}
noncomputable def tCB (r : List V → Hp → VK → Prop) (t : TA) : TE := fun σ H Q => t σ H fun vs H1 => r vs H1 Q
theorem pe_callB (hc : CallR X (.builtin id) r) (hg : Gl X x) (hm : X.mg x = none) (hv : bootBuiltins x = some (.builtin id)) (ha : PA X (e :: es) t) (hn : x ≠ "__name__" := by decide) (hdb : (x == ("__debug__" : Str)) = false := by decide)
    (he : starEach (e :: es) X.env = (false, eval e X.env) :: starEach es X.env := by rfl) (hpl : (backTo pos (starEach es X.env)).any (·.1) = false := by rfl) : PE X (.Call (.Name x p) (e :: es) [] pos) (tCB r t) := by
  intro pins s σ H Q I h
  refine wpAny_Call_Name_kw (ld_blt I hg hm hv ?_ hn hdb)
  exact PyProof.Rows.callWith_builtin1 (thn (ha pos pins s σ H _ I h) fun us s1 ⟨vs, H1, I1, r1, q1⟩ => hc pins s1 σ H1 vs us Q I1 r1 q1) he hpl
theorem pe_callTy (hc : CallR X (.type T) r) (hg : Gl X x) (hm : X.mg x = none) (hv : bootBuiltins x = some (.type T)) (ha : PA X (e :: es) t) (hn : x ≠ "__name__" := by decide) (hdb : (x == ("__debug__" : Str)) = false := by decide)
    (he : starEach (e :: es) X.env = (false, eval e X.env) :: starEach es X.env := by rfl) (hpl : (backTo pos (starEach es X.env)).any (·.1) = false := by rfl) : PE X (.Call (.Name x p) (e :: es) [] pos) (tCB r t) := by
  intro pins s σ H Q I h
  refine wpAny_Call_Name_kw (ld_blt I hg hm hv ?_ hn hdb)
  exact PyProof.Rows.callWith_type1 (thn (ha pos pins s σ H _ I h) fun us s1 ⟨vs, H1, I1, r1, q1⟩ => hc pins s1 σ H1 vs us Q I1 r1 q1) he hpl
end
end L2
namespace L2
open PySem PySem.Spec PyProof.Rows
section
variable {κ : Type} [DecidableEq κ]
noncomputable def valV (kvs : List (κ × V)) (k : κ) : Option V := (kvs.find? fun kv => decide (kv.1 = k)).map (·.2)
noncomputable def putK (kvs : List (κ × V)) (k : κ) (v : V) : List (κ × V) :=
  if (kvs.any fun kv => decide (kv.1 = k)) = true then kvs.map (fun kv => if kv.1 = k then (kv.1, v) else kv) else kvs ++ [(k, v)]
noncomputable def dropK (kvs : List (κ × V)) (k : κ) : List (κ × V) := kvs.filter fun kv => decide (kv.1 ≠ k)
theorem valV_pos {p : κ × V} {r : List (κ × V)} {k : κ} (e : p.1 = k) : valV (p :: r) k = some p.2 := by simp [valV, List.find?_cons, e]
theorem valV_neg {p : κ × V} {r : List (κ × V)} {k : κ} (e : ¬ p.1 = k) : valV (p :: r) k = valV r k := by simp [valV, List.find?_cons, e]
theorem valV_any (k : κ) : ∀ kvs : List (κ × V), (kvs.any fun kv => decide (kv.1 = k)) = (valV kvs k).isSome
  | [] => rfl
  | p :: r => by
    rw [List.any_cons]
    by_cases e : p.1 = k
    · simp only [valV_pos e, decide_eq_true e, Bool.true_or, Option.isSome_some]
    · rw [valV_neg e, decide_eq_false e, Bool.false_or]; exact valV_any k r
theorem length_putK (kvs : List (κ × V)) (k : κ) (v : V) : (putK kvs k v).length ≤ kvs.length + 1 := by
  unfold putK
  split
  · rw [List.length_map]; lia
  · rw [List.length_append, List.length_cons, List.length_nil]; lia
theorem putK_new {kvs : List (κ × V)} {k : κ} (v : V) (h : valV kvs k = none) : putK kvs k v = kvs ++ [(k, v)] := by
  unfold putK
  rw [valV_any, h]
  exact if_neg (by decide)
theorem RelO.isSome_eq {o : Option V} {u : Option Value} (r : RelO o u) : o.isSome = u.isSome := by
  cases o with
  | none => cases u with
    | none => rfl
    | some _ => exact (show False from r).elim
  | some _ => cases u with
    | none => exact (show False from r).elim
    | some _ => rfl
theorem RelO.getD {o : Option V} {u : Option Value} {d : V} {d' : Value} (r : RelO o u) (rd : RelV d d') : RelV (o.getD d) (u.getD d') := by
  cases o with
  | none => cases u with
    | none => exact rd
    | some _ => exact (show False from r).elim
  | some _ => cases u with
    | none => exact (show False from r).elim
    | some _ => exact r
theorem KV.val {kvs : List (κ × V)} {vs : List (κ × Value)} (r : KV kvs vs) (k : κ) : RelO (valV kvs k) (valueAt vs k) := by
  unfold KV at r
  induction r with
  | nil => exact True.intro
  | @cons p q ps qs h t ih =>
    obtain ⟨h1, h2⟩ := h
    by_cases e : p.1 = k
    · have e' : q.1 = k := h1.symm.trans e
      have b : valueAt (q :: qs) k = some q.2 := by simp [valueAt, List.find?_cons, e']
      rw [valV_pos e, b]; exact h2
    · have e' : ¬ q.1 = k := fun z => e (h1.trans z)
      have b : valueAt (q :: qs) k = valueAt qs k := by simp [valueAt, List.find?_cons, e']
      rw [valV_neg e, b]; exact ih
theorem KV.any {kvs : List (κ × V)} {vs : List (κ × Value)} (r : KV kvs vs) (k : κ) : (kvs.any fun kv => decide (kv.1 = k)) = vs.any fun kv => decide (kv.1 = k) := by
  unfold KV at r
  induction r with
  | nil => rfl
  | cons h t ih => rw [List.any_cons, List.any_cons, ih, h.1]
theorem KV.repl {kvs : List (κ × V)} {vs : List (κ × Value)} (r : KV kvs vs) (k : κ) {y : V} {u : Value} (ry : RelV y u) :
    KV (kvs.map fun kv => if kv.1 = k then (kv.1, y) else kv) (vs.map fun kv => if kv.1 = k then (kv.1, u) else kv) := by
  unfold KV at r ⊢
  induction r with
  | nil => exact .nil
  | @cons p q ps qs h t ih =>
    rw [List.map_cons, List.map_cons]
    refine .cons ?_ ih
    obtain ⟨h1, h2⟩ := h
    by_cases e : p.1 = k
    · rw [if_pos e, if_pos (h1.symm.trans e)]; exact ⟨h1, ry⟩
    · rw [if_neg e, if_neg (fun z => e (h1.trans z))]; exact ⟨h1, h2⟩
theorem KV.put {kvs : List (κ × V)} {vs : List (κ × Value)} (r : KV kvs vs) (k : κ) {y : V} {u : Value} (ry : RelV y u) : KV (putK kvs k y) (stored vs k u) := by
  unfold putK stored
  rw [r.any k]
  by_cases e : (vs.any fun kv => decide (kv.1 = k)) = true
  · rw [if_pos e, if_pos e]; exact r.repl k ry
  · rw [if_neg e, if_neg e]; exact Paired.snoc r ⟨rfl, ry⟩
theorem KV.drop {kvs : List (κ × V)} {vs : List (κ × Value)} (r : KV kvs vs) (k : κ) : KV (dropK kvs k) (without vs k) := by
  unfold KV at r ⊢
  unfold dropK without
  induction r with
  | nil => exact .nil
  | @cons p q ps qs h t ih =>
    obtain ⟨h1, h2⟩ := h
    rw [List.filter_cons, List.filter_cons]
    by_cases e : p.1 = k
    · have a : ¬ decide (p.1 ≠ k) = true := by simp [e]
      have b : ¬ decide (q.1 ≠ k) = true := by simp [h1.symm.trans e]
      rw [if_neg a, if_neg b]; exact ih
    · have e' : ¬ q.1 = k := fun z => e (h1.trans z)
      have a : decide (p.1 ≠ k) = true := by simp [e]
      have b : decide (q.1 ≠ k) = true := by simp [e']
      rw [if_pos a, if_pos b]; exact .cons ⟨h1, h2⟩ ih
theorem KV.keys {kvs : List (κ × V)} {vs : List (κ × Value)} (r : KV kvs vs) : kvs.map (·.1) = vs.map (·.1) := by
  unfold KV at r
  induction r with
  | nil => rfl
  | cons h t ih => rw [List.map_cons, List.map_cons, ih, h.1]
theorem KV.length {kvs : List (κ × V)} {vs : List (κ × Value)} (r : KV kvs vs) : kvs.length = vs.length := Paired.length r
theorem dropK_le (kvs : List (κ × V)) (k : κ) : (dropK kvs k).length ≤ kvs.length := List.length_filter_le _ _
end
theorem kV_is {P : Program} {w : World} {k : Key} {u : Value} (r : RelV (kV k) u) : (mixKind P w).is k u = true := by
  cases k with
  | inl i => obtain ⟨t, e⟩ := (show ∃ t, u = Value.int i t from r); subst e; exact mixKind_int P w i t
  | inr x => obtain ⟨t, e⟩ := (show ∃ t, u = Value.str x t from r); subst e; exact mixKind_str P w x t
theorem items_are {P : Program} {w : World} : ∀ {ks : List Key} {us : List Value}, Vals (ks.map kV) us → ItemsAre (mixKind P w) ks us
  | [], _, r => by rw [List.map_nil] at r; cases r; exact .nil
  | k :: ks, _, r => by
    rw [List.map_cons] at r
    cases r with
    | cons h t => exact .cons (kV_is h) (items_are t)
noncomputable abbrev KT (H : Hp) : List (List Key × V) → List (List Key × Addr × Value) → Prop := Paired fun p q => p.1 = q.1 ∧ H q.2.1 = some (.tup (p.1.map kV)) ∧ RelV p.2 q.2.2
theorem KT.val {H : Hp} {kvs : List (List Key × V)} {xs : List (List Key × Addr × Value)} (r : KT H kvs xs) (k : List Key) : RelO (valV kvs k) ((atKey xs k).map (·.2)) := by
  induction r with
  | nil => exact True.intro
  | @cons p q ps qs h t ih =>
    obtain ⟨h1, _, h2⟩ := h
    by_cases e : p.1 = k
    · have e' : q.1 = k := h1.symm.trans e
      have b : atKey (q :: qs) k = some q.2 := by simp [atKey, List.find?_cons, e']
      rw [valV_pos e, b]; exact h2
    · have e' : ¬ q.1 = k := fun z => e (h1.trans z)
      have b : atKey (q :: qs) k = atKey qs k := by simp [atKey, List.find?_cons, e']
      rw [valV_neg e, b]; exact ih
theorem KT.repl {H : Hp} {kvs : List (List Key × V)} {xs : List (List Key × Addr × Value)} (r : KT H kvs xs) (k : List Key) {y : V} {u : Value} (ry : RelV y u) :
    KT H (kvs.map fun kv => if kv.1 = k then (kv.1, y) else kv) (xs.map (putAt k u)) := by
  induction r with
  | nil => exact .nil
  | @cons p q ps qs h t ih =>
    rw [List.map_cons, List.map_cons]
    refine .cons ?_ ih
    obtain ⟨h1, h2, h3⟩ := h
    unfold putAt
    by_cases e : p.1 = k
    · rw [if_pos e, if_pos (h1.symm.trans e)]; exact ⟨h1, h2, ry⟩
    · rw [if_neg e, if_neg (fun z => e (h1.trans z))]; exact ⟨h1, h2, h3⟩
theorem KT.put {H : Hp} {kvs : List (List Key × V)} {xs : List (List Key × Addr × Value)} (r : KT H kvs xs) (k : List Key) {b : Addr} {y : V} {u : Value} (hb : H b = some (.tup (k.map kV))) (ry : RelV y u) :
    KT H (putK kvs k y) (storedH xs k b u) := by
  have e : (kvs.any fun kv => decide (kv.1 = k)) = (atKey xs k).isSome := by
    rw [valV_any, (r.val k).isSome_eq, Option.isSome_map]
  unfold putK storedH
  rw [e]
  by_cases q : (atKey xs k).isSome = true
  · rw [if_pos q, if_pos q]; exact r.repl k ry
  · rw [if_neg q, if_neg q]; exact Paired.snoc r ⟨rfl, hb, ry⟩
theorem KT.keeps {H H' : Hp} {kvs : List (List Key × V)} {xs : List (List Key × Addr × Value)} (r : KT H kvs xs) (ht : ∀ b ys, H b = some (.tup ys) → H' b = some (.tup ys)) : KT H' kvs xs :=
  Paired.mapP r fun _ _ z => ⟨z.1, ht _ _ z.2.1, z.2.2⟩
section
variable {P : Program} {w : World} {H : Hp} {h : Heap} {a : Addr}
theorem rd_of {u : HO} (ok : HOk P w H h) (e : Rd H a u) : ObjOk P w H h a u := e.ok ok
theorem dk_rd {kvs : List (Key × V)} (ok : HOk P w H h) (e : Rd H a (.dK kvs)) : kvs.length ≤ sizeLine ∧ (a == sysModules) = false ∧ ∃ vs, KV kvs vs ∧ h.DictOf (mixKind P w) a vs :=
  show ObjOk P w H h a (.dK kvs) from rd_of ok e
theorem dk_of {kvs : List (Key × V)} (ok : HOk P w H h) (e : H a = some (.dK kvs)) : kvs.length ≤ sizeLine ∧ (a == sysModules) = false ∧ ∃ vs, KV kvs vs ∧ h.DictOf (mixKind P w) a vs := dk_rd ok (.inl e)
theorem key_of {ks : List Key} (ok : HOk P w H h) (e : H a = some (.tup (ks.map kV))) : (tupleKind (mixKind P w)).is h ks a := by
  obtain ⟨_, its, r, o, h1, h2, n, h3⟩ := (show ObjOk P w H h a (.tup (ks.map kV)) from ok a _ e)
  exact ⟨o, its.toArray, n, h1, h2, h3, by simpa using items_are r⟩
theorem dt_rd {kvs : List (List Key × V)} (ok : HOk P w H h) (e : Rd H a (.dT kvs)) : kvs.length ≤ sizeLine ∧ (a == sysModules) = false ∧
    ∃ xs, KT H kvs xs ∧ h.DictOfH (tupleKind (mixKind P w)) a xs := by
  obtain ⟨z, y, xs, r, o, es, ep, h1, h2, h3, h4, h5⟩ := (show ObjOk P w H h a (.dT kvs) from rd_of ok e)
  refine ⟨z, y, xs, r, o, es, ep, h1, h2, h3, h4, fun x hx => ?_, h5⟩
  have all : ∀ {l : List (List Key × V)} {m : List (List Key × Addr × Value)}, KT H l m → ∀ x ∈ m, (tupleKind (mixKind P w)).is h x.1 x.2.1 := by
    intro l m q
    induction q with
    | nil => intro x hx; exact nomatch hx
    | @cons p q ps qs hq t ih =>
      intro x hx
      rcases List.mem_cons.mp hx with e | hx
      · subst e
        exact key_of ok (by rw [← hq.1]; exact hq.2.1)
      · exact ih x hx
  exact all r x hx
theorem dt_of {kvs : List (List Key × V)} (ok : HOk P w H h) (e : H a = some (.dT kvs)) : kvs.length ≤ sizeLine ∧ (a == sysModules) = false ∧
    ∃ xs, KT H kvs xs ∧ h.DictOfH (tupleKind (mixKind P w)) a xs := dt_rd ok (.inl e)
end
noncomputable def DGet (H : Hp) (a : Addr) (y : V) (r : Option V) : Prop :=
  (∃ kvs k, Rd H a (.dK kvs) ∧ y = kV k ∧ r = valV kvs k) ∨ ∃ kvs k b, Rd H a (.dT kvs) ∧ y = .ref b ∧ H b = some (.tup (k.map kV)) ∧ r = valV kvs k
noncomputable def DPut (H : Hp) (a : Addr) (y v : V) (H' : Hp) : Prop :=
  (∃ kvs k, H a = some (.dK kvs) ∧ y = kV k ∧ kvs.length < sizeLine ∧ H' = upd H a (.dK (putK kvs k v))) ∨
  ∃ kvs k b, H a = some (.dT kvs) ∧ y = .ref b ∧ H b = some (.tup (k.map kV)) ∧ kvs.length < sizeLine ∧ H' = upd H a (.dT (putK kvs k v))
theorem DGet.k {H : Hp} {a : Addr} {kvs : List (Key × V)} {k : Key} (e : H a = some (.dK kvs)) : DGet H a (kV k) (valV kvs k) := .inl ⟨kvs, k, .inl e, rfl, rfl⟩
theorem DGet.t {H : Hp} {a b : Addr} {kvs : List (List Key × V)} {k : List Key} (e : H a = some (.dT kvs)) (eb : H b = some (.tup (k.map kV))) : DGet H a (.ref b) (valV kvs k) := .inr ⟨kvs, k, b, .inl e, rfl, eb, rfl⟩
theorem DPut.k {H : Hp} {a : Addr} {kvs : List (Key × V)} {k : Key} {v : V} (e : H a = some (.dK kvs)) (hl : kvs.length < sizeLine) : DPut H a (kV k) v (upd H a (.dK (putK kvs k v))) := .inl ⟨kvs, k, e, rfl, hl, rfl⟩
theorem DPut.t {H : Hp} {a b : Addr} {kvs : List (List Key × V)} {k : List Key} {v : V} (e : H a = some (.dT kvs)) (eb : H b = some (.tup (k.map kV))) (hl : kvs.length < sizeLine) :
    DPut H a (.ref b) v (upd H a (.dT (putK kvs k v))) := .inr ⟨kvs, k, b, e, rfl, eb, hl, rfl⟩
section
variable {X : Cx} {pins : List (Addr × Obj)} {σ : St} {H : Hp} {s : Shared} {a : Addr} {y v : V} {u r : Value} {o : Option V} {A : Around} {E : Value → Shared → Prop}
theorem Inv.big (I : Inv X pins σ H s) : sysModules < s.heap.objs.size := by
  have h : mainGlobals < s.heap.objs.size := (I.mod.glob.keeps I.bk).lt
  exact Nat.lt_trans (by decide) h
theorem d_getItem {Q : Value → Shared → Prop} (hu : A.units + 1 < cLine) (I : Inv X pins σ H s) (g : DGet H a y (some v)) (ry : RelV y u) (h : ∀ w' s', Inv X pins σ H s' → RelV v w' → Q w' s') :
    wpAny (model X.prog X.w) A (getItem (.ref a) u) Q E s := by
  rcases g with ⟨kvs, k, e, ey, l⟩ | ⟨kvs, k, b, e, ey, eb, l⟩
  · subst ey
    obtain ⟨z, hd, vs, rel, dd⟩ := dk_rd I.hok e
    obtain ⟨w', hw, rw'⟩ := RelO.some_of (v := v) (o := valueAt vs k) (by rw [l]; exact rel.val k)
    exact wpAny_getItem_of (kV_is ry) dd.mapOf hw (h w' _ (I.tok _) rw')
  · subst ey
    cases (show u = Value.ref b from ry)
    obtain ⟨z, hd, xs, rel, dd⟩ := dt_rd I.hok e
    obtain ⟨w', hw, rw'⟩ := RelO.some_of (v := v) (o := (atKey xs k).map (·.2)) (by rw [l]; exact rel.val k)
    obtain ⟨p, hp, hp2⟩ := Option.map_eq_some_iff.mp hw
    refine wpAny_getItem_heap (tupleKind_room_in1 hu) (key_of I.hok eb) dd hp ?_
    rw [hp2]
    exact h w' _ (I.tok _) rw'
theorem d_write {h' : Heap} {t' : Nat} {ob : HO} (I : Inv X pins σ H s) (mu : Mut (H a)) (hs : Heap.SameBut a s.heap h') (he : ∃ q, h'.get? a = some q) (new : ObjOk X.prog X.w (upd H a ob) h' a ob) :
    Inv X pins σ (upd H a ob) { s with heap := h', toks := t' } :=
  I.write (x := a) (e := a) mu (.inl rfl) (fun b q hb z => (hs.2 b hb).trans z) he new
theorem dk_new {P : Program} {w : World} {H' : Hp} {h' : Heap} {kvs : List (Key × V)} {vs : List (Key × Value)} (z : kvs.length ≤ sizeLine) (hd : (a == sysModules) = false) (rel : KV kvs vs) (dd : h'.DictOf (mixKind P w) a vs) :
    ObjOk P w H' h' a (.dK kvs) := ⟨z, hd, vs, rel, dd⟩
theorem d_setItem {H' : Hp} {Q : Unit → Shared → Prop} (hu : A.units + 1 < cLine) (I : Inv X pins σ H s) (g : DPut H a y v H') (ry : RelV y u) (rv : RelV v r) (h : ∀ s', Inv X pins σ H' s' → Q () s') :
    wpAny (model X.prog X.w) A (setItem (.ref a) u r) Q E s := by
  rcases g with ⟨kvs, k, e, ey, l, eH⟩ | ⟨kvs, k, b, e, ey, eb, l, eH⟩
  · subst ey eH
    obtain ⟨z, hd, vs, rel, dd⟩ := dk_of I.hok e
    have hz : vs.length ≤ sizeLine := by rw [← rel.length]; exact z
    have hl : (putK kvs k v).length ≤ sizeLine := by have := length_putK kvs k v; lia
    refine wpAny_setItem_pairs (hsz := hz) (kV_is ry) dd fun h' dd' hs => h _ ?_
    have he : ∃ q, h'.get? a = some q := let ⟨q, _, _, hq, _⟩ := dd'; ⟨q, hq⟩
    exact d_write I (by rw [e]; exact True.intro) hs he (dk_new hl hd (rel.put k rv) dd')
  · subst ey eH
    cases (show u = Value.ref b from ry)
    obtain ⟨z, hd, xs, rel, dd⟩ := dt_of I.hok e
    have hz : xs.length ≤ sizeLine := by rw [← Paired.length rel]; exact z
    have hl : (putK kvs k v).length ≤ sizeLine := by have := length_putK kvs k v; lia
    refine wpAny_setItem_heap (hsz := hz) (tupleKind_room_in1 hu) (key_of I.hok eb) dd fun h' dd' hs => h _ ?_
    obtain ⟨q, es, ep, hq, h2, h3, h4, _, h5⟩ := dd'
    refine d_write I (by rw [e]; exact True.intro) hs ⟨q, hq⟩ ⟨hl, hd, _, (rel.put k eb rv).keeps fun c ys ec => ?_, q, es, ep, hq, h2, h3, h4, h5⟩
    rw [upd_ne (ne_of ec e (fun z => nomatch z))]
    exact ec
end
section
variable {X : Cx} {pins : List (Addr × Obj)} {σ : St} {H : Hp} {s : Shared} {a : Addr} {kvs : List (Key × V)} {k : Key} {u : Value} {A : Around} {E : Value → Shared → Prop}
theorem d_pop {v : V} {more : List Value} {Q : Value → Shared → Prop} (I : Inv X pins σ H s) (e : H a = some (.dK kvs)) (ry : RelV (kV k) u) (l : valV kvs k = some v) (hm : more = [] ∨ ∃ x, more = [x])
    (h : ∀ w' s', Inv X pins σ (upd H a (.dK (dropK kvs k))) s' → RelV v w' → Q w' s') : wpAny (model X.prog X.w) A (call (.builtin "dict.pop") (.ref a :: u :: more)) Q E s := by
  obtain ⟨z, hd, vs, rel, dd⟩ := dk_of I.hok e
  obtain ⟨w', hw, rw'⟩ := RelO.some_of (v := v) (o := valueAt vs k) (by rw [← l]; exact rel.val k)
  have hp : (keyPart u).isSome = true := by
    cases k with
    | inl i => obtain ⟨t, q⟩ := (show ∃ t, u = Value.int i t from ry); subst q; rfl
    | inr x => obtain ⟨t, q⟩ := (show ∃ t, u = Value.str x t from ry); subst q; rfl
  have ha : argsOk "dict.pop" ⟨.ref a :: u :: more, []⟩ := by
    rcases hm with q | ⟨x, q⟩
    · subst q; exact PySem.F.args_dict_pop_2 _ _
    · subst q; exact PySem.F.args_dict_pop_3 _ _ _
  refine call_meetsIn PySem.F.slot_dict_pop dd.typeIs PySem.F.entry_dict_pop ha (meets_dict_pop_there (mixKind X.prog X.w) a (kV_is ry) more hm hp)
    ⟨vs, w', dd, by rw [← rel.length]; exact z, hw, fun h' dd' hs => h w' _ ?_ rw'⟩
  have he : ∃ q, h'.get? a = some q := let ⟨q, _, _, hq, _⟩ := dd'; ⟨q, hq⟩
  exact d_write I (by rw [e]; exact True.intro) hs he (dk_new (Nat.le_trans (dropK_le kvs k) z) hd (rel.drop k) dd')
end
noncomputable def NoSl (i : Expr) : Prop := ∀ ov iv, subscripted i false ov iv = operate [ov, iv] (getItem ov iv)
theorem subD_of {prog : Program} {w : World} {A : Around} {E : Value → Shared → Prop} {s : Shared} {env : Env} {value slice : Expr} {pos : Pos} {T id : String} {Q : Value → Shared → Prop}
    (hl : typeLookup (.type T) "__getitem__" = pure (some (.builtin id))) (hs : NoSl slice)
    (h : wpAny (model prog w) A (eval value env) (fun o s₁ => wpAny (model prog w) A (eval slice env) (fun i s₂ => s₂.TypeIs o T ∧ wpAny (model prog w) A (getItem o i) Q E s₂) E s₁) E s) :
    wpAny (model prog w) A (eval (.Subscript value slice pos) env) Q E s := by
  refine Subscript_ (wpAny_mono h (fun o s₁ h₁ => wpAny_mono h₁ (fun i s₂ h₂ => ?_) fun _ _ x => x) fun _ _ x => x)
  obtain ⟨hT, h₂⟩ := h₂
  unfold subscriptTail
  refine wpAny_bind ?_
  rw [getitemInPython_of_ne hT.not_modules]
  refine wpAny_bind (wpAny_specialOf hT hl ?_)
  have fin : wpAny (model prog w) A (subscripted slice false o i) (fun r s₃ => wpAny (model prog w) A (letTemporaryGo value o r >>= fun _ => pure r) Q E s₃) E s₂ := by
    rw [hs o i]
    exact wpAny_operating (wpAny_mono h₂ (fun r s₃ h₃ => wpAny_bind (wpAny_letTemporaryGo (wpAny_pure h₃))) fun _ _ x => x)
  first
    | exact wpAny_pure (wpAny_bind fin)
    | exact wpAny_bind (wpAny_pure (wpAny_bind fin))
    | exact wpAny_bind fin
theorem dict_typeIs {X : Cx} {pins : List (Addr × Obj)} {σ : St} {H : Hp} {s : Shared} {a : Addr} {y : V} {o : Option V} (I : Inv X pins σ H s) (g : DGet H a y o) : s.TypeIs (.ref a) "dict" := by
  rcases g with ⟨kvs, k, e, _, _⟩ | ⟨kvs, k, b, e, _, _, _⟩
  · obtain ⟨_, _, vs, _, dd⟩ := dk_rd I.hok e
    exact dd.typeIs
  · obtain ⟨_, _, xs, _, dd⟩ := dt_rd I.hok e
    exact dd.typeIs
noncomputable def tDGet (td ty : TE) : TE := fun σ H Q => td σ H fun x H1 => ty σ H1 fun y H2 => ∃ a v, x = .ref a ∧ DGet H2 a y (some v) ∧ Q v H2
noncomputable def sDPut (td ty tv : TE) : TS := fun D σ H => tv σ H fun v H1 => td σ H1 fun x H2 => ty σ H2 fun y H3 => ∃ a H4, x = .ref a ∧ DPut H3 a y v H4 ∧ D.nx σ H4
section
variable {X : Cx} {o i e value : Expr} {pos pos' tpos : Pos} {td ty tv : TE}
theorem pe_dget (hu : X.A.units + 1 < cLine) (ho : PE X o td) (hi : PE X i ty) (hs : NoSl i) : PE X (.Subscript o i pos) (tDGet td ty) := by
  intro pins s σ H Q I h
  refine subD_of PySem.F.slot_dict_getitem.lookup hs (thn (ho pins s σ H _ I h) fun u s1 hh => ?_)
  obtain ⟨x, H1, I1, rx, q1⟩ := hh
  refine thn (hi pins s1 σ H1 _ I1 q1) fun iv s2 hh => ?_
  obtain ⟨y, H2, I2, ry, a, v, ex, g, q2⟩ := hh
  subst ex
  obtain rfl : u = Value.ref a := rx
  exact ⟨dict_typeIs I2 g, d_getItem hu I2 g ry fun w' s3 I3 rw' => ⟨v, H2, I3, rw', q2⟩⟩
theorem ps_dput (hu : X.A.units + 1 < cLine) (ho : PE X o td) (hi : PE X i ty) (hv : PE X value tv) (hs : swapsWith value (some (.Subscript o i pos')) pos.line X.env = pure false) :
    PS X (.Assign [.Subscript o i pos'] value pos) (sDPut td ty tv) := by
  intro pins s σ H D I h
  refine wpAny_Assign_Subscript (thn (hv pins s σ H _ I h) fun r s1 ⟨v, H1, I1, rv, q1⟩ => thn (ho pins s1 σ H1 _ I1 q1) fun u s2 ⟨x, H2, I2, rx, q2⟩ => thn (hi pins s2 σ H2 _ I2 q2) fun iv s3 ⟨y, H3, I3, ry, a, H4, ex, g, q3⟩ => ?_) hs
  subst ex
  obtain rfl : u = Value.ref a := rx
  exact d_setItem hu I3 g ry rv fun s4 I4 => ⟨σ, H4, I4, q3⟩
end
theorem dk_empty {P : Program} {w : World} {H : Hp} (h : Heap) (hb : sysModules < h.objs.size) : ObjOk P w H (h.push { cls := .type "dict", data := .dict #[] }) h.objs.size (.dK []) :=
  ⟨Nat.zero_le _, beq_eq_false_iff_ne.mpr (Ne.symm (Nat.ne_of_lt hb)), [], .nil, Heap.DictOf.new h⟩
noncomputable def tDNewK : TE := fun _ H Q => ∀ p, H p = none → Q (.ref p) (upd H p (.dK []))
section
variable {X : Cx} {pos : Pos}
theorem pe_dnewK : PE X (.Dict [] [] pos) tDNewK := fun pins s σ H Q I h =>
  wpAny_Dict_empty ⟨.ref s.heap.objs.size, _, I.laid (a := s.heap.objs.size) (o := .dK []) (t' := s.toks) (fun _ _ q => Heap.get?_push_of_some _ q) (Nat.le_refl _) (dk_empty s.heap I.big), rfl, h _ (I.hok.fresh (Nat.le_refl _))⟩
end
noncomputable def tPairs : List (TE × TE) → St → Hp → (List (V × V) → Hp → Prop) → Prop
  | [], _, H, Q => Q [] H
  | (tk, tv) :: r, σ, H, Q => tk σ H fun x H1 => tv σ H1 fun y H2 => tPairs r σ H2 fun ps H3 => Q ((x, y) :: ps) H3
noncomputable abbrev VV : List (V × V) → List (Value × Value) → Prop := Paired fun p q => RelV p.1 q.1 ∧ RelV p.2 q.2
noncomputable def PPs (X : Cx) (pos : Pos) (keys : List (Option Expr)) (values : List Expr) (trs : List (TE × TE)) : Prop :=
  ∀ (pins : List (Addr × Obj)) (s : Shared) (σ : St) (H : Hp) (Q : List (V × V) → Hp → Prop), Inv X pins σ H s → tPairs trs σ H Q →
    wpAny (model X.prog X.w) X.A (evalPairs (pairTrees keys values X.env pos)) (fun vs s' => ∃ ps H', Inv X pins σ H' s' ∧ VV ps vs ∧ Q ps H') X.xe s
structure M1 (X : Cx) (o : Expr) (m : Str) (apos : Pos) (e : Expr) (cpos : Pos) : Prop where
  base : attributeBase o m X.env (eval o X.env) = eval o X.env
  few : ((backTo cpos (starEach [e] X.env)).all (fun x => !x.1) && (backToKw cpos (keywordEach [] X.env)).all (fun x => x.1.isSome)
    && decide (([e] : List Expr).length + ([] : List Keyword).length + (if ([] : List Keyword).isEmpty then 0 else 1) < 30)) = true
  line : (apos.endLine == cpos.line) = true
  trees : backTo cpos (starEach [e] X.env) = [(false, eval e X.env)]
structure M2 (X : Cx) (o : Expr) (m : Str) (apos : Pos) (e f : Expr) (cpos : Pos) : Prop where
  base : attributeBase o m X.env (eval o X.env) = eval o X.env
  few : ((backTo cpos (starEach [e, f] X.env)).all (fun x => !x.1) && (backToKw cpos (keywordEach [] X.env)).all (fun x => x.1.isSome)
    && decide (([e, f] : List Expr).length + ([] : List Keyword).length + (if ([] : List Keyword).isEmpty then 0 else 1) < 30)) = true
  line : (apos.endLine == cpos.line) = true
  trees : backTo cpos (starEach [e, f] X.env) = [(false, eval e X.env), (false, eval f X.env)]
noncomputable def IsD (H : Hp) (a : Addr) : Prop := (∃ kvs, Rd H a (.dK kvs)) ∨ ∃ kvs, Rd H a (.dT kvs)
theorem isD_at {X : Cx} {pins : List (Addr × Obj)} {σ : St} {H : Hp} {s : Shared} {a : Addr} (I : Inv X pins σ H s) (d : IsD H a) :
    s.TypeIs (.ref a) "dict" ∧ (∀ b, Value.ref a = .ref b → ∃ ob, s.heap.get? b = some ob ∧ ob.dict = none) ∧ (a == sysModules) = false := by
  rcases d with ⟨kvs, e⟩ | ⟨kvs, e⟩
  · obtain ⟨_, hd, vs, _, dd⟩ := dk_rd I.hok e
    refine ⟨dd.typeIs, fun b q => ?_, hd⟩
    cases q
    obtain ⟨ob, _, _, h1, h2, _⟩ := dd
    exact ⟨ob, h1, h2.2.1⟩
  · obtain ⟨_, hd, xs, _, dd⟩ := dt_rd I.hok e
    refine ⟨dd.typeIs, fun b q => ?_, hd⟩
    cases q
    obtain ⟨ob, _, _, h1, h2, _⟩ := dd
    exact ⟨ob, h1, h2.2.1⟩
section
variable {X : Cx} {pins : List (Addr × Obj)} {σ : St} {H : Hp} {s : Shared} {a : Addr} {y d : V} {u r : Value} {o : Option V} {A : Around} {E : Value → Shared → Prop}
end
noncomputable def tDPop1 (td ty : TE) : TE := fun σ H Q => td σ H fun x H1 => ∃ a, x = .ref a ∧ IsD H1 a ∧ ty σ H1 fun y H2 => ∃ kvs k v, H2 a = some (.dK kvs) ∧ y = kV k ∧ valV kvs k = some v ∧ Q v (upd H2 a (.dK (dropK kvs k)))
section
variable {X : Cx} {o e f : Expr} {apos cpos : Pos} {td ty tx : TE}
theorem pe_dpop1 (ho : PE X o td) (he : PE X e ty) (m : M1 X o "pop" apos e cpos) : PE X (.Call (.Attribute o "pop" apos) [e] [] cpos) (tDPop1 td ty) := by
  intro pins s σ H Q I h
  refine wpAny_Call_method m.base m.few m.line PySem.F.plainAttrs_dict PySem.F.slot_dict_pop PySem.F.type_dict_pop (thn (ho pins s σ H _ I h) fun u s1 hh => ?_)
  obtain ⟨x, H1, I1, rx, a, ex, d, q1⟩ := hh
  subst ex
  obtain rfl : u = Value.ref a := rx
  obtain ⟨t1, t2, _⟩ := isD_at I1 d
  refine ⟨t1, t2, ?_⟩
  rw [m.trees]
  refine Calls.callWith_builtin rfl (Calls.evalArgs_plain (Calls.spliced_cons (thn (he pins s1 σ H1 _ I1 q1) fun iv s2 hh => ?_)))
  obtain ⟨y, H2, I2, ry, kvs, k, v, ea, ey, l, q2⟩ := hh
  refine Calls.spliced_nil ?_
  subst ey
  exact d_pop I2 ea ry l (.inl rfl) fun w' s3 I3 rw' => ⟨v, _, I3, rw', q2⟩
end
section
variable {X : Cx} {pins : List (Addr × Obj)} {σ : St} {H : Hp} {s : Shared} {a : Addr} {kvs : List (Key × V)} {A : Around} {E : Value → Shared → Prop}
end
section
variable {X : Cx} {pins : List (Addr × Obj)} {σ : St} {H : Hp} {s : Shared} {a : Addr} {y : V} {u : Value} {A : Around} {E : Value → Shared → Prop}
end
end L2
namespace HT
open PySem PyProof.Rows
noncomputable def lexLt : List Int → List Int → Bool
  | [], [] => false
  | [], _ :: _ => true
  | _ :: _, [] => false
  | x :: xs, y :: ys => if x = y then lexLt xs ys else decide (x < y)
theorem lexLt_cons (x y : Int) (xs ys : List Int) : lexLt (x :: xs) (y :: ys) = if x = y then lexLt xs ys else decide (x < y) := rfl
theorem rcLt_int (A : Around) (s : Shared) (a : Int) (t : Tok) (c : Int) (u : Tok) (prog : Program) (w : World) (E : Value → Shared → Prop) (Q : Value → Shared → Prop) (h : Q (.bool (decide (a < c))) s) :
    wpAny (model prog w) A (richCompare .Lt (.int a t) (.int c u)) Q E s :=
  (PyProof.Rows.lt_int h : wpAny (model prog w) A (compareOp .Lt (.int a t) (.int c u)) Q E s)
section
open PySem.SeqAt
open PySem.AutoSeq1 (wpAny_loadPart')
open PySem.MeetsSeq PySem.MeetsSeq2 PySem.MeetsSeq3
end
section
variable {prog : Program} {w : World} {A : Around} {E : Value → Shared → Prop} {s : Shared}
end
end HT
namespace L2
open PySem PySem.Spec PyProof.Rows
noncomputable abbrev TO := St → Hp → (Option Int → Hp → Prop) → Prop
noncomputable def PO (X : Cx) (e : Option Expr) (t : TO) : Prop :=
  ∀ (pins : List (Addr × Obj)) (s : Shared) (σ : St) (H : Hp) (Q : Option Int → Hp → Prop), Inv X pins σ H s → t σ H Q →
    wpAny (model X.prog X.w) X.A (evalPart e X.env) (fun u s' => ∃ o H', Inv X pins σ H' s' ∧ IsPart u o ∧ Q o H') X.xe s
theorem intsAre_of {ns : List Int} : ∀ {us : List Value}, Vals (ns.map V.int) us → IntsAre us ns := by
  induction ns with
  | nil => intro us r; rw [List.map_nil] at r; cases r; exact .nil
  | cons n ns ih =>
    intro us r
    rw [List.map_cons] at r
    cases r with
    | cons r1 r2 =>
      obtain ⟨t, e⟩ := r1
      subst e
      exact .cons n t (ih r2)
section
variable {X : Cx} {e : Expr} {te : TE} {lo hi : Option Expr} {tl th : TO} {pos p2 : Pos}
noncomputable def SlR (X : Cx) (r : V → Option Int → Option Int → Hp → VK → Prop) : Prop :=
  ∀ (pins : List (Addr × Obj)) (s : Shared) (σ : St) (H : Hp) (x : V) (v vl vu : Value) (lo hi : Option Int) (sl : Addr) (Q : VK), Inv X pins σ H s → RelV x v → s.heap.IsSliceOf sl vl vu .none → IsPart vl lo → IsPart vu hi → r x lo hi H Q →
    ∃ T id, typeLookup (.type T) "__getitem__" = pure (some (.builtin id)) ∧ s.TypeIs v T ∧ wpAny (model X.prog X.w) X.A (getItem v (.ref sl)) (EP X pins σ Q) X.xe s
end
end L2
namespace L2
open PySem PySem.Spec PyProof.Rows
noncomputable def ixN (n : Nat) (i : Int) : Option Nat := if 0 ≤ i then (if i < n then some i.toNat else none) else if -(n : Int) ≤ i then some (i + n).toNat else none
noncomputable def atI {α : Type} (xs : List α) (i : Int) : Option α := (ixN xs.length i).bind fun j => xs[j]?
theorem ixN_seq {n : Nat} {i : Int} {j : Nat} (h : ixN n i = some j) : seqIndex? i n = some j ∧ j < n ∧ -(n : Int) ≤ i ∧ i < n := by
  unfold ixN at h
  by_cases h0 : 0 ≤ i
  · rw [if_pos h0] at h
    by_cases h1 : i < n
    · rw [if_pos h1] at h
      have e : i.toNat = j := Option.some.inj h
      exact ⟨by rw [seqIndex_of h0 h1, e], by lia, by lia, h1⟩
    · rw [if_neg h1] at h; cases h
  · rw [if_neg h0] at h
    by_cases h1 : -(n : Int) ≤ i
    · rw [if_pos h1] at h
      have e : (i + n).toNat = j := Option.some.inj h
      exact ⟨by rw [seqIndex_neg (by lia) h1, e], by lia, h1, by lia⟩
    · rw [if_neg h1] at h; cases h
theorem atI_get {α : Type} {xs : List α} {i : Int} {v : α} (h : atI xs i = some v) : ∃ j, seqIndex? i xs.length = some j ∧ xs[j]? = some v ∧ j < xs.length ∧ -(xs.length : Int) ≤ i ∧ i < xs.length := by
  unfold atI at h
  cases e : ixN xs.length i with
  | none => rw [e] at h; cases h
  | some j =>
    rw [e] at h
    obtain ⟨h1, h2, h3, h4⟩ := ixN_seq e
    exact ⟨j, h1, h, h2, h3, h4⟩
theorem atI_nat {α : Type} {xs : List α} {j : Nat} {v : α} (h : xs[j]? = some v) : atI xs (j : Int) = some v := by
  have hj : j < xs.length := (List.getElem?_eq_some_iff.mp h).1
  have e : ixN xs.length (j : Int) = some j := by
    unfold ixN
    rw [if_pos (by lia), if_pos (by lia)]; simp
  unfold atI; rw [e]; exact h
noncomputable def PlainIx (b : Expr) : Prop := ∀ o i, subscripted b false o i = operate [o, i] (getItem o i)
noncomputable def IxR (X : Cx) (r : R2) : Prop :=
  ∀ (value slice : Expr) (pins : List (Addr × Obj)) (s : Shared) (σ : St) (H : Hp) (x y : V) (v u : Value) (Q : VK), Inv X pins σ H s → RelV x v → RelV y u → r x y H Q →
    subscripted slice false v u = operate [v, u] (getItem v u) → wpAny (model X.prog X.w) X.A (subscriptTail value slice v u) (EP X pins σ Q) X.xe s
noncomputable def MtR (X : Cx) (id : String) (r : V → List V → Hp → VK → Prop) : Prop :=
  ∀ (pins : List (Addr × Obj)) (s : Shared) (σ : St) (H : Hp) (x : V) (xs : List V) (v : Value) (us : List Value) (Q : VK), Inv X pins σ H s → RelV x v → Vals xs us → r x xs H Q →
    wpAny (model X.prog X.w) X.A (call (.builtin id) (v :: us)) (EP X pins σ Q) X.xe s
section
variable {X : Cx} {a b : Expr} {ta tb : TE} {pos : Pos}
theorem pe_ix {r : R2} (hr : IxR X r) (ha : PE X a ta) (hb : PE X b tb) (hs : PlainIx b) : PE X (.Subscript a b pos) (tOp r ta tb) := by
  intro pins s σ H Q I h
  exact Subscript_ (binT ha hb I h fun v u s2 x y H2 I2 rx ry q => hr a b pins s2 σ H2 x y v u Q I2 rx ry q (hs _ _))
noncomputable def rIxL (K : PySem.W.Frag) : R2 := fun x y H Q => ∃ p xs i v, x = .ref p ∧ y = .int i ∧ SqL K H p xs ∧ atI xs i = some v ∧ Q v H
noncomputable def rIxT (K : PySem.W.Frag) : R2 := fun x y H Q => ∃ p xs i v, x = .ref p ∧ y = .int i ∧ SqT K H p xs ∧ atI xs i = some v ∧ Q v H
theorem ix_list : IxR X (rIxL X.K) := by
  intro value slice pins s σ H x y v u Q I rx ry h hs
  obtain ⟨p, xs, i, z, rfl, rfl, hq, he, q⟩ := h
  cases rx
  obtain ⟨t, rfl⟩ := ry
  obtain ⟨its, r, pl, hz⟩ := I.list hq
  obtain ⟨j, h1, h2, h3, h4, h5⟩ := atI_get he
  obtain ⟨w, ew, rw'⟩ := r.get h2
  have hl := r.length
  have hn := line63
  have fin : EP X pins σ Q w s := ⟨z, H, I, rw', q⟩
  by_cases h0 : 0 ≤ i
  · have hj : i.toNat = j := by
      rw [seqIndex_of h0 h5] at h1
      exact Option.some.inj h1
    exact item_listR pl.isList h0 (by lia) (by rw [hj]; simpa using ew) fin hs
  · have hj : (i + (its.toArray.size : Int)).toNat = j := by
      rw [seqIndex_neg (by lia) h4] at h1
      rw [List.size_toArray, ← hl]
      exact Option.some.inj h1
    exact subscriptTail_builtinR (x := w) pl.isList.typeIs slot_list_getitem.lookup
      (wpAny_getItem_list_neg (Q := fun r s' => r = w ∧ EP X pins σ Q r s') pl.isList (by lia) (by rw [List.size_toArray] <;> lia) (by lia) (by rw [hj]; simpa using ew) ⟨rfl, fin⟩) hs
theorem ix_tup : IxR X (rIxT X.K) := by
  intro value slice pins s σ H x y v u Q I rx ry h hs
  obtain ⟨p, xs, i, z, rfl, rfl, hq, he, q⟩ := h
  cases rx
  obtain ⟨t, rfl⟩ := ry
  obtain ⟨its, r, pl, hz⟩ := I.tuple hq
  obtain ⟨j, h1, h2, h3, h4, h5⟩ := atI_get he
  obtain ⟨w, ew, rw'⟩ := r.get h2
  have hl := r.length
  have hn := line63
  have fin : EP X pins σ Q w s := ⟨z, H, I, rw', q⟩
  exact subscriptTail_builtinR (x := w) pl.typeIs slot_tuple_getitem.lookup
    (getItem_tuple (j := j) (Q := fun r s' => r = w ∧ EP X pins σ Q r s') pl (by lia) (by lia) (by rw [List.size_toArray, ← hl]; exact h1) (by simpa using ew) ⟨rfl, fin⟩) hs
theorem mapSeq_set (its : List Value) (n j : Nat) (u : Value) : Obj.mapSeq (·.setIfInBounds j u) { cls := .type "list", data := .seq its.toArray n } = { cls := .type "list", data := .seq (its.set j u).toArray n } := by
  simp [Obj.mapSeq]
theorem Inv.lst {pins : List (Addr × Obj)} {σ : St} {H : Hp} {s : Shared} {p : Addr} {xs : List V} (I : Inv X pins σ H s) (h : H p = some (.lst xs)) :
    ∃ (its : List Value) (n : Nat), Vals xs its ∧ s.heap.get? p = some { cls := .type "list", data := .seq its.toArray n } ∧ xs.length ≤ sizeLine := by
  obtain ⟨z, its, n, r, e⟩ := I.hok p _ h
  exact ⟨its, n, r, e, z⟩
theorem Inv.lstUpd {pins : List (Addr × Obj)} {σ : St} {H : Hp} {s : Shared} {p : Addr} {xs ys : List V} {its its' : List Value} {n n' : Nat} {f : Obj → Obj} (I : Inv X pins σ H s) (h : H p = some (.lst xs))
    (ho : s.heap.get? p = some { cls := .type "list", data := .seq its.toArray n }) (hf : f { cls := .type "list", data := .seq its.toArray n } = { cls := .type "list", data := .seq its'.toArray n' }) (r : Vals ys its') (hz : ys.length ≤ sizeLine) (t : Nat) :
    Inv X pins σ (upd H p (.lst ys)) { s with heap := s.heap.update p f, toks := t } := by
  have e : (s.heap.update p f).get? p = some { cls := .type "list", data := .seq its'.toArray n' } := by
    rw [Heap.get?_update_self f ho (by rw [hf] <;> rfl), hf]
  refine I.write (x := p) (e := p) (by rw [h]; trivial) (.inl rfl) (fun b u hb q => (Heap.get?_update_other _ _ (Ne.symm hb)).trans q) ⟨_, e⟩ ?_
  exact ⟨hz, its', n', r, e⟩
noncomputable def rSetL : V → V → V → Hp → (Hp → Prop) → Prop := fun o i v H Q => ∃ p xs k j, o = .ref p ∧ i = .int k ∧ H p = some (.lst xs) ∧ ixN xs.length k = some j ∧ Q (upd H p (.lst (xs.set j v)))
theorem set_list : PSet X rSetL := by
  intro pins s σ H o i v ov iv u Q I ro ri rv h
  obtain ⟨p, xs, k, j, rfl, rfl, hp, hj, q⟩ := h
  cases ro
  obtain ⟨t, rfl⟩ := ri
  obtain ⟨its, n, r, ho, hz⟩ := I.lst hp
  obtain ⟨h1, h2, h3, h4⟩ := ixN_seq hj
  have hl := r.length
  have hn := line63
  have I' : Inv X pins σ (upd H p (.lst (xs.set j v))) { s with heap := s.heap.update p (Obj.mapSeq (·.setIfInBounds j u)) } :=
    I.lstUpd hp ho (mapSeq_set its n j u) (r.set rv j) (by rw [List.length_set]; exact hz) s.toks
  by_cases h0 : 0 ≤ k
  · have hk : k.toNat = j := by
      rw [seqIndex_of h0 h4] at h1
      exact Option.some.inj h1
    exact PySem.W.ki_setAt ho h0 (by lia) (by rw [List.size_toArray, ← hl]; exact h4) (by rw [hk]; exact ⟨_, I', q⟩)
  · have hk : (k + (its.toArray.size : Int)).toNat = j := by
      rw [seqIndex_neg (by lia) h3] at h1
      rw [List.size_toArray, ← hl]
      exact Option.some.inj h1
    exact PySem.W.ki_setBack ho (by lia) (by rw [List.size_toArray, ← hl]; exact h3) (by lia) (by rw [hk]; exact ⟨_, I', q⟩)
noncomputable def flatV : V → Bool
  | .non => true
  | .bl _ => true
  | .int _ => true
  | .str _ => true
  | _ => false
noncomputable def eqV : V → V → Bool
  | .non, .non => true
  | .bl a, .bl b => a == b
  | .bl a, .int b => (if a then 1 else 0) == b
  | .int a, .bl b => a == (if b then 1 else 0)
  | .int a, .int b => a == b
  | .str a, .str b => a == b
  | _, _ => false
theorem eqAt_V {A : Around} {s : Shared} {y x : V} {u v : Value} (ry : RelV y u) (rx : RelV x v) (fy : flatV y = true) (fx : flatV x = true) : SeqAt.EqAt A s u v (eqV y x) := by
  cases y with
  | non =>
    cases ry
    cases x with
    | non => cases rx; exact SeqAt.EqAt.same _
    | bl b => cases rx; exact SeqAt.EqAt.none_bool b
    | int b => obtain ⟨t, rfl⟩ := rx; exact SeqAt.EqAt.none_int b t
    | str b => obtain ⟨t, rfl⟩ := rx; exact SeqAt.EqAt.none_str b t
    | _ => exact absurd (show false = true from fx) Bool.false_ne_true
  | bl a =>
    cases ry
    cases x with
    | non => cases rx; exact SeqAt.EqAt.bool_none a
    | bl b => cases rx; exact SeqAt.EqAt.bool_bool a b
    | int b => obtain ⟨t, rfl⟩ := rx; exact SeqAt.EqAt.bool_int a b t
    | str b => obtain ⟨t, rfl⟩ := rx; exact SeqAt.EqAt.bool_str a b t
    | _ => exact absurd (show false = true from fx) Bool.false_ne_true
  | int a =>
    obtain ⟨t', rfl⟩ := ry
    cases x with
    | non => cases rx; exact SeqAt.EqAt.int_none a t'
    | bl b => cases rx; exact SeqAt.EqAt.int_bool a t' b
    | int b => obtain ⟨t, rfl⟩ := rx; exact SeqAt.EqAt.int_int a t' b t
    | str b => obtain ⟨t, rfl⟩ := rx; exact SeqAt.EqAt.int_str a t' b t
    | _ => exact absurd (show false = true from fx) Bool.false_ne_true
  | str a =>
    obtain ⟨t', rfl⟩ := ry
    cases x with
    | non => cases rx; exact SeqAt.EqAt.str_none a t'
    | bl b => cases rx; exact SeqAt.EqAt.str_bool a t' b
    | int b => obtain ⟨t, rfl⟩ := rx; exact SeqAt.EqAt.str_int a t' b t
    | str b => obtain ⟨t, rfl⟩ := rx; exact SeqAt.EqAt.str_str a t' b t
    | _ => exact absurd (show false = true from fx) Bool.false_ne_true
  | _ => exact absurd (show false = true from fy) Bool.false_ne_true
noncomputable def eqU (x : V) (u : Value) : Bool := match u with
  | .none => eqV .non x
  | .bool b => eqV (.bl b) x
  | .int i _ => eqV (.int i) x
  | .str z _ => eqV (.str z) x
  | _ => false
theorem eqU_of {x y : V} {u : Value} (r : RelV y u) (f : flatV y = true) : eqU x u = eqV y x := by
  cases y with
  | non => cases r; rfl
  | bl b => cases r; rfl
  | int i => obtain ⟨t, rfl⟩ := r; rfl
  | str z => obtain ⟨t, rfl⟩ := r; rfl
  | _ => exact absurd (show false = true from f) Bool.false_ne_true
theorem any_eqU {x : V} : ∀ {xs : List V} {us : List Value}, Vals xs us → xs.all flatV = true → us.any (eqU x) = xs.any fun y => eqV y x
  | _, _, .nil, _ => rfl
  | y :: xs, u :: us, .cons r t, f => by
    rw [List.all_cons, Bool.and_eq_true] at f
    rw [List.any_cons, List.any_cons, eqU_of r f.1, any_eqU t f.2]
theorem mem_eqAt {A : Around} {s : Shared} {x : V} {v : Value} (rx : RelV x v) (fx : flatV x = true) : ∀ {xs : List V} {us : List Value}, Vals xs us → xs.all flatV = true → ∀ u ∈ us, SeqAt.EqAt A s u v (eqU x u)
  | _, _, .nil, _ => fun u hu => by cases hu
  | y :: xs, u :: us, .cons r t, f => fun u' hu => by
    rw [List.all_cons, Bool.and_eq_true] at f
    rcases List.mem_cons.mp hu with rfl | hu
    · rw [eqU_of r f.1]; exact eqAt_V r rx f.1 fx
    · exact mem_eqAt rx fx t f.2 u' hu
noncomputable def inV (x : V) (xs : List V) : Bool := xs.any fun y => eqV y x
noncomputable def rIn (K : PySem.W.Frag) (neg : Bool) : R2 := fun x y H Q => ∃ p xs, y = .ref p ∧ (SqL K H p xs ∨ SqT K H p xs) ∧ flatV x = true ∧ xs.all flatV = true ∧ Q (.bl (if neg then !inV x xs else inV x xs)) H
theorem op_in_seq : OpR X (compareOp .In) (rIn X.K false) := by
  intro pins s σ H x y v u Q I rx ry h
  obtain ⟨p, xs, rfl, hq, fx, fs, q⟩ := h
  cases ry
  rcases hq with hq | hq
  · obtain ⟨its, r, pl, hz⟩ := I.list hq
    refine SeqAt.in_listAt (eqU x) pl.isList (fun w hw => mem_eqAt rx fx r fs w (by simpa using hw)) ⟨.bl _, H, I, rfl, ?_⟩
    rw [show its.toArray.any (eqU x) = its.any (eqU x) by simp, any_eqU r fs]
    exact q
  · obtain ⟨its, r, pl, hz⟩ := I.tuple hq
    refine SeqAt.in_tupleAt (eqU x) pl (fun w hw => mem_eqAt rx fx r fs w (by simpa using hw)) ⟨.bl _, H, I, rfl, ?_⟩
    rw [show its.toArray.any (eqU x) = its.any (eqU x) by simp, any_eqU r fs]
    exact q
theorem call_len_seq : CallR X (.builtin "len") (fun xs H Q => ∃ p ys, xs = [.ref p] ∧ (SqL X.K H p ys ∨ SqT X.K H p ys) ∧ Q (.int ys.length) H) := by
  intro pins s σ H xs us Q I r h
  obtain ⟨p, ys, rfl, hq, q⟩ := h
  obtain ⟨u, rfl, rx⟩ := vals1 r
  cases rx
  have hn := line63
  rcases hq with hq | hq
  · obtain ⟨its, r', pl, hz⟩ := I.list hq
    have hlen := r'.length
    exact Calls.call_len_list pl.isList (by simp only [List.size_toArray] <;> lia) ⟨.int ys.length, H, I.tok _, ⟨s.toks + 1, by rw [List.size_toArray, hlen]⟩, q⟩
  · obtain ⟨its, r', pl, hz⟩ := I.tuple hq
    have hlen := r'.length
    exact len_tuple pl (by simp only [List.size_toArray] <;> lia) ⟨.int ys.length, H, I.tok _, ⟨s.toks + 1, by rw [List.size_toArray, hlen]⟩, q⟩
theorem call_list_of : CallR X (.type "list") (fun xs H Q => ∃ p ys, xs = [.ref p] ∧ (SqL X.K H p ys ∨ SqT X.K H p ys) ∧ ∀ l, H l = none → Q (.ref l) (upd H l (.lst ys))) := by
  intro pins s σ H xs us Q I r h
  obtain ⟨p, ys, rfl, hq, q⟩ := h
  obtain ⟨u, rfl, rx⟩ := vals1 r
  cases rx
  have fin : ∀ (its : List Value), Vals ys its → ys.length ≤ sizeLine → ∀ (h' : Heap) (c' : Nat), (∀ b o', s.heap.get? b = some o' → h'.get? b = some o') →
      h'.get? s.heap.objs.size = some { cls := .type "list", dict := none, data := .seq its.toArray c', slots := #[] } → EP X pins σ Q (.ref s.heap.objs.size) { s with heap := h' } := fun its r' hz h' c' kp e =>
    ⟨.ref s.heap.objs.size, _, I.laid (t' := s.toks) kp (Nat.le_refl _) (show ObjOk X.prog X.w _ h' _ (.lst ys) from ⟨hz, its, c', r', e⟩), rfl, q _ (I.hok.fresh (Nat.le_refl _))⟩
  rcases hq with hq | hq
  · obtain ⟨its, r', pl, hz⟩ := I.list hq
    have hlen := r'.length
    obtain ⟨o, ho, hc, n, hd⟩ := pl.isList
    exact call_list_seq p (.inl rfl) ho hc hd (fun h' c' kp e => fin its r' hz h' c' kp e) (by simp only [List.size_toArray] <;> lia)
  · obtain ⟨its, r', pl, hz⟩ := I.tuple hq
    have hlen := r'.length
    obtain ⟨o, ho, hc, n, hd⟩ := pl
    exact call_list_seq p (.inr rfl) ho hc hd (fun h' c' kp e => fin its r' hz h' c' kp e) (by simp only [List.size_toArray] <;> lia)
noncomputable def tyV (K : PySem.W.Frag) (T : String) (x : V) (H : Hp) : Prop := match x with
  | .str _ => T = "str"
  | .int _ => T = "int"
  | .ref p => (T = "list" ∧ ∃ xs, SqL K H p xs) ∨ (T = "tuple" ∧ ∃ o, K.lookup p = some o ∧ o.cls = .type "tuple" ∧ o.dict = none) ∨
      (T = "dict" ∧ ((∃ kvs, H p = some (.dK kvs)) ∨ ∃ kvs, H p = some (.dT kvs))) ∨ (T = "set" ∧ ∃ S n, H p = some (.set S n))
  | _ => False
theorem tyV_is {pins : List (Addr × Obj)} {σ : St} {H : Hp} {s : Shared} {T : String} {x : V} {v : Value} (I : Inv X pins σ H s) (r : RelV x v) (ty : tyV X.K T x H) :
    s.TypeIs v T ∧ ∀ a, v = .ref a → ∃ ob, s.heap.get? a = some ob ∧ ob.dict = none := by
  cases x with
  | str z =>
    obtain ⟨t, rfl⟩ := r
    cases (show T = "str" from ty)
    exact ⟨typeIs_str s z t, fun _ e => nomatch e⟩
  | int i =>
    obtain ⟨t, rfl⟩ := r
    cases (show T = "int" from ty)
    exact ⟨typeIs_int s i t, fun _ e => nomatch e⟩
  | ref p =>
    cases r
    rcases ty with ⟨rfl, xs, hq⟩ | ⟨rfl, o, hk, hc, hd⟩ | ⟨rfl, hk⟩ | ⟨rfl, S, n, hk⟩
    · obtain ⟨its, _, pl, _⟩ := I.list hq
      refine ⟨pl.isList.typeIs, fun a e => ?_⟩
      cases e
      obtain ⟨o, n, e, c, hd, _⟩ := pl
      exact ⟨o, e, hd⟩
    · refine ⟨⟨o, I.kIn p o hk, hc⟩, fun a e => ?_⟩
      cases e
      exact ⟨o, I.kIn _ o hk, hd⟩
    · have z : ∃ o, s.heap.get? p = some o ∧ o.ExactDict := by
        rcases hk with ⟨kvs, hk⟩ | ⟨kvs, hk⟩
        · obtain ⟨_, _, _, _, o, _, _, e, ex, _⟩ := I.hok p _ hk
          exact ⟨o, e, ex⟩
        · obtain ⟨_, _, _, _, o, _, _, e, ex, _⟩ := I.hok p _ hk
          exact ⟨o, e, ex⟩
      obtain ⟨o, e, ex⟩ := z
      refine ⟨⟨o, e, ex.1⟩, fun a e2 => ?_⟩
      cases e2
      exact ⟨o, e, ex.2.1⟩
    · obtain ⟨o, _, _, _, e, ex, _⟩ := I.hok p _ hk
      refine ⟨⟨o, e, ex.1⟩, fun a e2 => ?_⟩
      cases e2
      exact ⟨o, e, ex.2.1⟩
  | _ => exact False.elim ty
noncomputable def tBM (K : PySem.W.Frag) (T : String) (r : V → List V → Hp → VK → Prop) (to : TE) (t : TA) : TE := fun σ H Q => to σ H fun x H1 => tyV K T x H1 ∧ t σ H1 fun xs H2 => r x xs H2 Q
variable {o e : Expr} {es : List Expr} {to : TE} {t : TA} {name : Str} {apos cpos : Pos} {T id : String} {r : V → List V → Hp → VK → Prop}
theorem pe_bm (pa : PlainAttrs T) (slot : Slot T name id) (hty : typeOf (.builtin id) = pure (.type "method_descriptor")) (hm : MtR X id r) (ho : PE X o to) (ha : PA X (e :: es) t)
    (hbase : attributeBase o name X.env (eval o X.env) = eval o X.env := by rfl)
    (hfew : ((backTo cpos (starEach (e :: es) X.env)).all (fun x => !x.1) && (backToKw cpos (keywordEach [] X.env)).all (fun x => x.1.isSome)
      && decide ((e :: es).length + ([] : List Keyword).length + (if ([] : List Keyword).isEmpty then 0 else 1) < 30)) = true := by rfl)
    (hline : (apos.endLine == cpos.line) = true := by rfl) (hs : starEach (e :: es) X.env = (false, eval e X.env) :: starEach es X.env := by rfl) (hplain : (backTo cpos (starEach es X.env)).any (·.1) = false := by rfl) :
    PE X (.Call (.Attribute o name apos) (e :: es) [] cpos) (tBM X.K T r to t) := by
  intro pins s σ H Q I h
  refine wpAny_Call_method_late hbase hfew hline rfl (thn (ho pins s σ H _ I h) fun v s1 hh => ?_)
  obtain ⟨x, H1, I1, r1, ty, q1⟩ := hh
  obtain ⟨h1, h2⟩ := tyV_is I1 r1 ty
  refine ⟨T, id, pa, slot, hty, h1, h2, ?_⟩
  have hA := ha cpos pins s1 σ H1 _ I1 q1
  rw [hs] at hA ⊢
  refine Calls.callWith_builtin (by show (false || (backTo cpos (starEach es X.env)).any (·.1)) = false; rw [hplain] <;> rfl) (Calls.evalArgs_plain ?_)
  exact thn hA fun us s2 ⟨vs, H2, I2, r2, q2⟩ => hm pins s2 σ H2 x vs v us Q I2 r1 r2 q2
end
end L2
namespace L2
open PySem PySem.Spec PyProof.Rows
noncomputable def MtM (X : Cx) (id : String) (r : V → List V → Hp → VK → Prop) : Prop :=
  ∀ (pins : List (Addr × Obj)) (s : Shared) (σ : St) (H : Hp) (x : V) (xs : List V) (v : Value) (us : List Value) (Q : VK), Inv X pins σ H s → RelV x v → Vals xs us → r x xs H Q →
    wpAny (model X.prog X.w) X.A (call (.builtin id) (v :: us)) (EP X pins σ Q) X.xe s
theorem Vals.one {x : V} {us : List Value} (h : Vals [x] us) : ∃ u, us = [u] ∧ RelV x u := by
  cases h with
  | cons r t => cases t; exact ⟨_, rfl, r⟩
theorem Vals.two {x y : V} {us : List Value} (h : Vals [x, y] us) : ∃ u v, us = [u, v] ∧ RelV x u ∧ RelV y v := by
  cases h with
  | cons r t =>
    cases t with
    | cons q t => cases t; exact ⟨_, _, rfl, r, q⟩
theorem Vals.zero : ∀ {us : List Value}, Vals [] us → us = []
  | _, .nil => rfl
section
variable {X : Cx} {pins : List (Addr × Obj)} {σ : St} {H : Hp} {s : Shared} {l b : Addr} {xs ys zs : List V}
theorem Inv.lset {its its' : List Value} {n : Nat} {f : Array Value → Array Value} {t' : Nat} (I : Inv X pins σ H s) (hH : H l = some (.lst xs))
    (e : s.heap.get? l = some { cls := .type "list", data := .seq its.toArray n }) (hf : f its.toArray = its'.toArray) (hv : Vals ys its') (hz : ys.length ≤ sizeLine) :
    Inv X pins σ (upd H l (.lst ys)) { s with heap := s.heap.update l (Obj.mapSeq f), toks := t' } := by
  have q := PySem.IsL.update e f
  rw [hf] at q
  refine I.write (x := l) (e := l) (by rw [hH]; exact trivial) (.inl rfl) (fun b' u hb hu => (Heap.get?_update_other s.heap (Obj.mapSeq f) (Ne.symm hb)).trans hu) ⟨_, q⟩ ?_
  exact ⟨hz, its', _, hv, q⟩
theorem Inv.lnew {its : List Value} {t' : Nat} (I : Inv X pins σ H s) (hv : Vals ys its) (hz : ys.length ≤ sizeLine) :
    Inv X pins σ (upd H s.heap.objs.size (.lst ys)) { s with heap := s.heap.push { cls := .type "list", data := .seq its.toArray }, toks := t' } :=
  I.laid (fun _ _ q => Heap.get?_push_of_some _ q) (Nat.le_refl _) ⟨hz, its, 0, hv, Heap.get?_push_size _ rfl⟩
theorem Inv.fresh (I : Inv X pins σ H s) : H s.heap.objs.size = none := I.hok.fresh (Nat.le_refl _)
theorem Inv.lstM (I : Inv X pins σ H s) (hH : H l = some (.lst xs)) : xs.length ≤ sizeLine ∧ ∃ (its : List Value) (n : Nat), Vals xs its ∧ xs.length = its.length ∧ s.heap.get? l = some { cls := .type "list", data := .seq its.toArray n } := by
  obtain ⟨z, its, n, r, e⟩ := I.hok l _ hH
  exact ⟨z, its, n, r, r.length, e⟩
theorem notLongL {n : Nat} (h : n ≤ sizeLine) : Builtin.List.listTooLong n = false := by
  unfold Builtin.List.listTooLong
  exact decide_eq_false (by lia)
end
section
variable {X : Cx}
noncomputable def rAppend : V → List V → Hp → VK → Prop := fun x vs H Q => ∃ l xs y, x = .ref l ∧ vs = [y] ∧ H l = some (.lst xs) ∧ xs.length < sizeLine ∧ Q .non (upd H l (.lst (xs ++ [y])))
theorem mt_append : MtM X "list.append" rAppend := by
  intro pins s σ H x vs v us Q I rx rv h
  obtain ⟨l, xs, y, rfl, rfl, hH, hz, q⟩ := h
  cases rx
  obtain ⟨u, rfl, ru⟩ := rv.one
  obtain ⟨z, its, n, r, hl, e⟩ := I.lstM hH
  refine call_meets F.slot_list_append ⟨_, e, rfl⟩ F.entry_list_append (F.args_list_append_2 _ _) (PySem.list_append l its.toArray n u (by rw [List.size_toArray]; lia)) ⟨e, ?_⟩
  refine ⟨.non, _, I.lset (its' := its ++ [u]) hH e (by simp) (r.append (.cons ru .nil)) ?_, rfl, q⟩
  rw [List.length_append, List.length_singleton]
  lia
noncomputable def rExtend : V → List V → Hp → VK → Prop := fun x vs H Q => ∃ l b xs zs, x = .ref l ∧ vs = [.ref b] ∧ H l = some (.lst xs) ∧ H b = some (.lst zs) ∧ xs.length + zs.length ≤ sizeLine ∧ Q .non (upd H l (.lst (xs ++ zs)))
theorem mt_extend : MtM X "list.extend" rExtend := by
  intro pins s σ H x vs v us Q I rx rv h
  obtain ⟨l, b, xs, zs, rfl, rfl, hH, hB, hz, q⟩ := h
  cases rx
  obtain ⟨u, rfl, ru⟩ := rv.one
  cases ru
  obtain ⟨z, its, n, r, hl, e⟩ := I.lstM hH
  obtain ⟨z2, its2, n2, r2, hl2, e2⟩ := I.lstM hB
  have hsz : its.toArray.size + its2.toArray.size ≤ sizeLine := by rw [List.size_toArray, List.size_toArray]; lia
  have hlong : ¬ (!its.toArray.isEmpty && Builtin.List.listTooLong (its.toArray.size + its2.toArray.size)) = true := by
    rw [notLongL hsz, Bool.and_false]
    exact Bool.false_ne_true
  refine call_meets F.slot_list_extend ⟨_, e, rfl⟩ F.entry_list_extend (F.args_list_extend_2 _ _)
    (AutoSeq1.list_extend_list_list_0 l its.toArray n b its2.toArray n2 hlong (by rw [List.size_toArray]; lia) (by lia)) ⟨e, e2, ?_⟩
  refine ⟨.non, _, I.lset (its' := its ++ its2) hH e (by simp) (r.append r2) ?_, rfl, q⟩
  rw [List.length_append]
  lia
noncomputable def rCat : R2 := fun x y H Q => ∃ l b xs zs, x = .ref l ∧ y = .ref b ∧ H l = some (.lst xs) ∧ H b = some (.lst zs) ∧ xs.length + zs.length ≤ sizeLine ∧ ∀ p, H p = none → Q (.ref p) (upd H p (.lst (xs ++ zs)))
theorem op_cat : OpR X (binaryOp .Add) rCat := by
  intro pins s σ H x y v u Q I rx ry h
  obtain ⟨l, b, xs, zs, rfl, rfl, hH, hB, hz, q⟩ := h
  cases rx
  cases ry
  obtain ⟨z, its, n, r, hl, e⟩ := I.lstM hH
  obtain ⟨z2, its2, n2, r2, hl2, e2⟩ := I.lstM hB
  refine PySem.P.add_list e e2 ?_ (by rw [List.size_toArray, List.size_toArray]; lia)
  have ea : its.toArray ++ its2.toArray = (its ++ its2).toArray := by simp
  rw [ea]
  exact ⟨.ref _, _, I.lnew (t' := s.toks) (r.append r2) (by rw [List.length_append]; lia), rfl, q _ I.fresh⟩
end
section
variable {prog : Program} {w : World} {A : Around} {E : Value → Shared → Prop} {s : Shared}
end
section
variable {X : Cx}
end
end L2
namespace Att
open PySem PySem.W PySem.Calls PyProof.Rows
theorem ints_of_wellAll {P : Params} {h : Heap} : ∀ (ns : List Int) (vs : List Value), WellAll P h vs (ns.map WData.int) → IntsAre vs ns := by
  intro ns
  induction ns with
  | nil =>
    intro vs w
    rw [List.map_nil] at w
    cases w
    exact .nil
  | cons n ns ih =>
    intro vs w
    rw [List.map_cons] at w
    cases w with
    | cons a b =>
      cases a
      exact .cons _ _ (ih _ b)
theorem script_of {l : OpenLaw} {n : Nat} (hn : l.most = some n) {P : Params} {h : Heap} {args : List WData} {vals : List Value}
    (hpre : l.row.toRowW.claim.pre args = true) (hwl : WellAll P h vals args) :
    ∃ a vs ns, vals = [Value.ref a] ∧ args = [WData.list (ns.map WData.int)] ∧ h.get? a = some { cls := .type "list", data := .seq vs.toArray } ∧ IntsAre vs ns ∧ ns.length ≤ n := by
  have hsh : WShape.hasAll [] args [.list .int] = true := (pre_splitW hpre).1
  have hc : l.pre.holds [] { args := args } = true := (pre_splitW hpre).2
  obtain ⟨d, r, rfl, h1, h2⟩ := hasAllW_cons hsh
  obtain rfl := hasAllW_nil h2
  obtain ⟨xs, rfl, h3⟩ := hasW_list h1
  obtain ⟨ns, rfl⟩ := items_int h3
  have hlen : ns.length ≤ n := by
    unfold OpenLaw.pre at hc
    have h4 : (WTm.not (.lt (.lit (.int (n : Int))) (.len (.arg 0)))).holds [] { args := [.list (ns.map .int)] } = true := by
      have h4 := (holds_andW hc).1
      rw [hn] at h4
      exact h4
    have h5 := condW_of h4 (w_not (w_lt w_lit (w_len_list (w_arg rfl))))
    rw [List.length_map] at h5
    refine Nat.le_of_not_lt fun q => ?_
    have q' : (n : Int) < ((ns.length : Nat) : Int) := by lia
    first
      | (rw [decide_eq_true q'] at h5; exact absurd h5 (by decide))
      | (simp at h5; lia)
  cases hwl with
  | cons w1 w2 =>
    cases w2
    cases w1 with
    | list ho hall => exact ⟨_, _, ns, rfl, rfl, ho, ints_of_wellAll ns _ hall, hlen⟩
theorem post_true (l : OpenLaw) (args : List WData) : l.row.toRowW.claim.post args (.bool true) args = true :=
  postW_of (r := l.row.toRowW) (X := (true == true))
    (show WShape.has [] (.bool true) .bool = true by first | rfl | decide | simp [WShape.has, WShape.arms, WShape.armsAll])
    (show (WTm.eq .res (.lit (.bool true))).value [] { args := args, res := some (.bool true), after := args } = some (.bool (true == true)) from w_eq_bool (w_res rfl) w_lit) rfl
theorem attach_call {l : OpenLaw} {n : Nat} {q : Program} {loose : List Str} {XP : (Str → Option Value) → Heap → Prop} {YP : World → Heap → Prop} {d : DefRec}
    (hn : l.most = some n) (hdf : d.params.defaults = [])
    (call : ∀ (w : World) (s₀ s₁ : Shared) (mg mb : Str → Option Value) (fa : Addr) (o : Obj) (pm cd doc : Value) (a : Addr) (vs : List Value) (ns : List Int),
      Ground q loose [] XP w s₀ mg mb s₁.heap → YP w s₁.heap →
      s₁.heap.get? fa = some o → o.data = .func (docDef d.name d.params d.body d.scope pm cd doc) → s₁.heap.CodeRec cd d.name → mg d.name = some (.ref fa) →
      s₁.heap.get? a = some { cls := .type "list", data := .seq vs.toArray } → IntsAre vs ns → ns.length ≤ n → s₁.gens = #[] →
      codeAny (model l.prog w) callerA (.call (.ref fa) ⟨[.ref a], []⟩) (fun r s' => r = .ok (.ret (.bool true)) ∧ OldK s₁.heap s'.heap ∧ s'.os = s₁.os ∧ AllBare s'.gens) s₁) :
    WalkO q loose XP YP l.row.toRowW d [] (fun f vs => PySem.call f vs) := by
  intro w s₀ s₁ mg mb G Y fa o pm cd doc dV kV ho hd hcd hD hmg hg args vals as hpre hlay hrd hwl hlo
  obtain rfl : dV = .none := Dflts.none hD hdf
  obtain rfl : kV = .none := Dflts.noKw hD
  obtain ⟨a, vs, ns, rfl, rfl, hobj, hints, hlen⟩ := script_of hn hpre hwl
  refine enter_call (codeAny_mono (call w s₀ s₁ mg mb fa o pm cd doc a vs ns G Y ho (fd_plain hd) hcd hmg hobj hints hlen hg) fun r s' hq => ?_)
  obtain ⟨rfl, h2, h3, h4⟩ := hq
  exact ⟨.inl ⟨.bool true, .bool true, [], rfl, fun _ => rfl, .bool true, post_true l _, fun _ => ⟨List.Pairwise.nil, fun _ hm => (nomatch hm)⟩⟩, h2, h3, h4⟩
section
variable {prog : Program} {w : World} {A : Around} {E : Value → Shared → Prop} {s : Shared} {K : Frag}
end
end Att
namespace L2
open PySem PySem.Spec PyProof.Rows
theorem vals_ints : ∀ {vs : List Value} {ns : List Int}, IntsAre vs ns → Vals (ns.map V.int) vs
  | _, _, .nil => .nil
  | _, _, .cons n t h => .cons ⟨t, rfl⟩ (vals_ints h)
noncomputable def Only (H : Hp) : Prop := ∀ b, H b = none ∨ ∃ o xs, H b = some (.frz o (.lst xs))
theorem law_call {P : Program} {w : World} {K : PySem.W.Frag} {mg mb : Str → Option Value} {CX : CXT} {k : Nat} {fa a : Addr} {fd : FuncData} {x : Str} {sp : Sp} {s₁ : Shared} {vs : List Value} {ns : List Int}
    (KX : K.In s₁.heap) (hns : s₁.heap.Ns mainGlobals mg) (hb : s₁.heap.Ns builtinsNs mb) (hbb : ∀ x : Str, x ≠ "__name__" → mb x = bootBuiltins x) (hlim : s₁.heap.NoLimit) (hg : s₁.gens = #[])
    (ha : s₁.heap.get? a = some { cls := .type "list", data := .seq vs.toArray }) (hi : IntsAre vs ns) (hl : ns.length ≤ sizeLine) (hr : Room k callerA)
    (F : ∀ base : Heap, K.In base → base.Ns mainGlobals mg → FnOk P w K mg base CX k fa fd [x] sp) (hbind : ∀ (s : Shared) (u : Value), BindsTo s fd ⟨[u], []⟩ [(x, u)])
    (hsp : ∀ H : Hp, Only H → SqL K H a (ns.map V.int) → sp [.ref a] H (fun v _ => v = .bl true) fun _ _ _ => False)
    (hCX : ∀ H e s', CX [] H s₁ (fun _ _ _ => False) e s' → False) :
    codeAny (model P w) callerA (.call (.ref fa) ⟨[.ref a], []⟩) (fun r s' => r = .ok (.ret (.bool true)) ∧ OldK s₁.heap s'.heap ∧ s'.os = s₁.os ∧ AllBare s'.gens) s₁ := by
  have rv := vals_ints hi
  have lenV := hi.length
  -- from an abstract heap in which nothing but the script may be tracked
  have core : ∀ H : Hp, Only H → SqL K H a (ns.map V.int) → HOk P w H s₁.heap → (∀ b, H b ≠ none → b = a) → (H a ≠ none → K.lookup a = none) →
      codeAny (model P w) callerA (.call (.ref fa) ⟨[.ref a], []⟩) (fun r s' => r = .ok (.ret (.bool true)) ∧ OldK s₁.heap s'.heap ∧ s'.os = s₁.os ∧ AllBare s'.gens) s₁ := by
    intro H hO hS hok hA hK
    have base_of : ∀ {b : Addr} {o : Obj}, s₁.heap.get? b = some o → H b = none → (hidT s₁.heap H).get? b = some o := fun e n => hidT_get e n
    have noA : ∀ {b : Addr} {o : Obj} {es : Array DictEntry} {ep : Nat}, s₁.heap.get? b = some o → o.data = .dict es ep → H b = none := fun {b o es ep} e d => by
      cases q : H b with
      | none => rfl
      | some u =>
        have e' : b = a := hA b (by rw [q]; simp)
        subst e'
        rw [ha] at e; cases e
        have d' : Data.seq vs.toArray _ = Data.dict es ep := d
        cases d'
    have nsK : ∀ {b : Addr} {m : Str → Option Value}, s₁.heap.Ns b m → (hidT s₁.heap H).Ns b m := fun {b m} ⟨o, es, ep, e, d, r⟩ => ⟨o, es, ep, base_of e (noA e d), d, r⟩
    have hKb : K.In (hidT s₁.heap H) := fun b o e => base_of (KX b o e) (by
      cases q : H b with
      | none => rfl
      | some u =>
        have e' : b = a := hA b (by rw [q]; simp)
        subst e'
        rw [hK (by rw [q]; simp)] at e; cases e)
    have hM : Mod K mg (hidT s₁.heap H) := ⟨hKb, nsK hns, ⟨mb, nsK hb, hbb⟩, let ⟨mc, h1, h2⟩ := hlim; ⟨mc, nsK h1, h2⟩⟩
    have e0 : Env0 P w K mg (hidT s₁.heap H) callerA [] s₁ H := ⟨rfl, hM, fun b o e => of_hidT e, Nat.le_of_eq (hidT_size _ _), trivial, fun b hb => absurd (show b ∈ ([] : List Addr) from hb) (by simp), hok, .of_eq hg⟩
    refine codeAny_mono ((F _ hKb (nsK hns)).run callerA [] s₁ H ⟨[.ref a], []⟩ [.ref a] [.ref a] _ _ hr e0 (hbind s₁ (.ref a)) (.cons rfl .nil) (hsp H hO hS)) fun r s' h => ?_
    cases r with
    | error e => exact (hCX H e s' h).elim
    | ok fl =>
      cases fl with
      | next => exact False.elim h
      | brk => exact False.elim h
      | cont => exact False.elim h
      | ret u =>
        obtain ⟨v, H', os, bare, un, hok', r', q⟩ := h
        have q' : v = .bl true := q
        subst q'
        obtain rfl : u = Value.bool true := r'
        refine ⟨rfl, OldK.of_keep fun b o e => ?_, os, bare⟩
        cases q : H b with
        | none => exact un.keep b o e q (by intro z; exact absurd (show b ∈ ([] : List Addr) from z) (by simp)) (by simp)
        | some u =>
          rcases hO b with z | ⟨ob, xs, z⟩
          · rw [q] at z; cases z
          · have z2 := un.frzs b ob _ z
            obtain ⟨e1, _⟩ := hok b _ z
            obtain ⟨e2, _⟩ := hok' b _ z2
            rw [e] at e1; cases e1
            exact e2
  cases hk : K.lookup a with
  | some o =>
    -- the script is one of the module's own objects
    have e := KX a o hk
    rw [ha] at e
    cases e
    refine core (fun _ => none) (fun _ => .inl rfl) (.inr ⟨_, vs.toArray, _, hk, rfl, rfl, rfl, by rw [List.size_toArray, lenV]; exact hl, by simpa using rv⟩) (fun b u z => by have z' : (none : Option HO) = some u := z; cases z') (fun b z => absurd rfl z) fun z => absurd rfl z
  | none =>
    refine core (fun b => if b = a then some (.frz { cls := .type "list", data := .seq vs.toArray } (.lst (ns.map V.int))) else none) (fun b => ?_) (.inl (.inr ⟨{ cls := .type "list", data := .seq vs.toArray }, if_pos rfl⟩)) (fun b u z => ?_) (fun b z => ?_) fun _ => hk
    · by_cases hb : b = a
      · exact .inr ⟨_, _, if_pos hb⟩
      · exact .inl (if_neg hb)
    · by_cases hb : b = a
      · have z' := (if_pos hb).symm.trans z
        cases z'
        subst hb
        exact ⟨ha, by rw [List.length_map]; exact hl, vs, _, rv, ha⟩
      · have z' := (if_neg hb).symm.trans z
        cases z'
    · by_cases hb : b = a
      · exact hb
      · exact absurd (if_neg hb) z
end L2
namespace L2
open PySem PySem.Spec PyProof.Rows
theorem walk_of {l : PySem.W.OpenLaw} {n k : Nat} {q : Program} {loose : List Str} {XP : (Str → Option Value) → Heap → Prop} {YP : World → Heap → Prop} {d : DefRec} {K : Params → PySem.W.Frag} {CX : World → CXT} {sp : World → Sp} {x : Str}
    (hn : l.most = some n) (hn2 : n ≤ sizeLine) (hdf : d.params.defaults = []) (hr : Room k callerA)
    (hY : ∀ (w : World) (h : Heap), YP w h → (K w.params).In h)
    (F : ∀ (w : World) (mg : Str → Option Value) (fa : Addr) (h : Heap), (K w.params).In h → h.Ns mainGlobals mg → mg d.name = some (.ref fa) →
      ∃ fd : FuncData, (∀ (s : Shared) (u : Value), BindsTo s fd ⟨[u], []⟩ [(x, u)]) ∧
        ∀ base : Heap, (K w.params).In base → base.Ns mainGlobals mg → FnOk l.prog w (K w.params) mg base (CX w) k fa fd [x] (sp w))
    (hsp : ∀ (w : World) (H : Hp) (a : Addr) (ns : List Int), ns.length ≤ n → Only H → SqL (K w.params) H a (ns.map V.int) → sp w [.ref a] H (fun v _ => v = .bl true) fun _ _ _ => False)
    (hCX : ∀ (w : World) (H : Hp) (s : Shared) (e : Value) (s' : Shared), CX w [] H s (fun _ _ _ => False) e s' → False) :
    PySem.W.WalkO q loose XP YP l.row.toRowW d [] (fun f vs => PySem.call f vs) := by
  refine Att.attach_call hn hdf fun w s₀ s₁ mg mb fa o pm cd doc a vs ns G Y ho hd hcd hmg hobj hints hlen hg => ?_
  have KX := hY w _ Y
  obtain ⟨fd, hb, hF⟩ := F w mg fa _ KX G.T.g hmg
  exact law_call KX G.T.g G.T.b G.T.builtins G.T.nolimit hg hobj hints (Nat.le_trans hlen hn2) hr hF hb (fun H hO hS => hsp w H a ns hlen hO hS) fun H e s' => hCX w H s₁ e s'
end L2
namespace L2
open PySem PySem.Spec PyProof.Rows
noncomputable def inClass (s : Stmt) (j : Nat) : Stmt := match s with
  | .ClassDef _ _ _ body _ _ _ _ _ _ _ => body.getD j (.Pass ⟨0, 0, 0, 0⟩)
  | _ => .Pass ⟨0, 0, 0, 0⟩
noncomputable def defArgs (s : Stmt) : Arguments := match s with
  | .FunctionDef _ a _ _ _ _ _ _ _ _ => a
  | _ => { posonlyargs := [], args := [], vararg := none, kwonlyargs := [], kw_defaults := [], kwarg := none, defaults := [] }
noncomputable def defBody (s : Stmt) : List Stmt := match s with
  | .FunctionDef _ _ b _ _ _ _ _ _ _ => b
  | _ => []
noncomputable def defScope (s : Stmt) : Scope := match s with
  | .FunctionDef _ _ _ _ _ _ sc _ _ _ => sc
  | _ => { kind := .function, names := [], isGenerator := false, isCoroutine := false }
noncomputable abbrev CX0 : CXT := fun _ _ _ _ _ _ => False
noncomputable abbrev E0 : XK := fun _ _ _ => False
theorem pass0 {X : Cx} : Passes CX0 X E0 := fun _ _ _ _ _ _ _ h => h.elim
structure Fun (K : PySem.W.Frag) (x qual : Str) (st : Stmt) (f : Addr) (fd : FuncData) : Prop where
  ex : ∃ (oc : Value) (od : Option Addr) (kV doc pm : Value) (an : Option Addr) (cdv ct : Value) (osl : Array (Option Value)),
    fd = PySem.W.fnOf x qual (defArgs st) (defBody st) (defScope st) .none kV doc pm an cdv ct ∧ K.lookup f = some ⟨oc, od, .func fd, osl⟩ ∧ PySem.W.codeIn K cdv qual = true
  kp : PySem.W.keepIn K (.ref f) = true
section
variable {P : Program} {w : World} {K : PySem.W.Frag} {mg : Str → Option Value} {base : Heap}
theorem Fun.ok {x qual : Str} {st : Stmt} {f : Addr} {fd : FuncData} {N ps : List Str} {k : Nat} {sp : Sp} (F : Fun K x qual st f fd) (S : FnScope N ps (defScope st)) (len : ∀ vs H Q E, sp vs H Q E → vs.length = ps.length)
    (hbody : ∀ (cdv : Value) (A : Around) (outer : List Env) (s : Shared) (H : Hp) (vs : List V) (Q : VK) (E : XK), Room k (A.deeper (envOfC qual (defScope st) s.heap.objs.size f cdv)) → sp vs H Q E →
      ∃ t, PSs (cxOf CX0 P w K mg base N qual (defScope st) f cdv A outer s H E).nox (defBody st) t ∧ t { nx := fun _ H' => Q .non H', rt := Q } (start N vs) H) : FnOk P w K mg base CX0 (k + 1) f fd ps sp := by
  obtain ⟨oc, od, kV, doc, pm, an, cdv, ct, osl, rfl, lk, hcd⟩ := F.ex
  refine fn_of lk hcd S len fun A outer s H vs Q E hr hsp => ?_
  obtain ⟨t, h, q⟩ := hbody cdv A outer s H vs Q E hr hsp
  exact ⟨t, h.nox, q⟩
theorem Fun.binds {x qual : Str} {st : Stmt} {f : Addr} {fd : FuncData} {ps : List Str} (F : Fun K x qual st f fd)
    (h : ∀ (kV doc pm : Value) (an : Option Addr) (cdv ct : Value) (us : List Value), us.length = ps.length → bindArgs (PySem.W.fnOf x qual (defArgs st) (defBody st) (defScope st) .none kV doc pm an cdv ct) ⟨us, []⟩ = pure (ps.zip us)) : Binds K fd ps [] := by
  obtain ⟨oc, od, kV, doc, pm, an, cdv, ct, osl, rfl, lk, hcd⟩ := F.ex
  exact .all (h kV doc pm an cdv ct)
theorem fun_mk {x qual : Str} {st : Stmt} {f : Addr} {oc : Value} {od an : Option Addr} {osl : Array (Option Value)} {kV doc pm cdv ct : Value} (l : K.lookup f = some ⟨oc, od, .func (PySem.W.fnOf x qual (defArgs st) (defBody st) (defScope st) .none kV doc pm an cdv ct), osl⟩)
    (c : PySem.W.codeIn K cdv qual = true) (k : PySem.W.keepIn K (.ref f) = true) : Fun K x qual st f (PySem.W.fnOf x qual (defArgs st) (defBody st) (defScope st) .none kV doc pm an cdv ct) := ⟨⟨oc, od, kV, doc, pm, an, cdv, ct, osl, rfl, l, c⟩, k⟩
end
theorem hu_of {A : Around} {k : Nat} (hr : Room k A) : A.units + 1 < cLine := Nat.lt_of_le_of_lt (Nat.add_le_add_left (by decide : 1 ≤ 64) _) hr.units
section
variable {X : Cx}
end
theorem iteF {A B : Prop} (h : B) : if false = true then A else B := by
  rw [if_neg Bool.false_ne_true]
  exact h
theorem iteT {A B : Prop} (h : A) : if true = true then A else B := by
  rw [if_pos rfl]
  exact h
theorem ite2 {c A B : Prop} [Decidable c] (h1 : c → A) (h2 : ¬ c → B) : if c then A else B := by
  by_cases h : c
  · rw [if_pos h]
    exact h1 h
  · rw [if_neg h]
    exact h2 h
noncomputable def Same (H H' : Hp) : Prop := ∀ b o, H b = some o → H' b = some o
theorem Same.refl (H : Hp) : Same H H := fun _ _ h => h
theorem Same.trans {H H1 H2 : Hp} (a : Same H H1) (b : Same H1 H2) : Same H H2 := fun c o h => b c o (a c o h)
theorem Same.free {H H' : Hp} (e : Same H H') {l : Addr} (h : H' l = Option.none) : H l = Option.none := by
  cases q : H l with
  | none => rfl
  | some o =>
    rw [e l o q] at h
    cases h
end L2
namespace L2
open PySem PySem.Spec PyProof.Rows
section
variable {X : Cx}
end
section
variable {κ : Type} [DecidableEq κ]
end
end L2
namespace L3
open PySem PySem.Spec PyProof.Rows L2
noncomputable abbrev St := L2.St
theorem same_upd {B H : Hp} {l : Addr} {o : HO} (h : Same B H) (n : B l = none) : Same B (upd H l o) := fun b u e => by
  rw [upd_ne (ne_of_none e n)]; exact h b u e
theorem same_new {H : Hp} {l : Addr} {o : HO} (n : H l = none) : Same H (upd H l o) := same_upd (Same.refl H) n
noncomputable def New (H : Hp) (o : HO) (Q : VK) : Prop := ∀ p H', H p = none → Same H H' → H' p = some o → (∀ b, b ≠ p → H' b = H b) → Q (.ref p) H'
theorem New.at {H : Hp} {o : HO} {Q : VK} (h : New H o Q) {p : Addr} (n : H p = none) : Q (.ref p) (upd H p o) := h p _ n (same_new n) upd_same fun b hb => upd_ne hb
noncomputable def clOf (env : Env) : List (Str × NameKind) → List (Str × Addr) → List (Str × Addr)
  | [], cs => cs
  | (n, k) :: r, cs => clOf env r (if (k == NameKind.free) = true then (n, ((env.cells.lookup n).getD 0)) :: cs else cs)
theorem clOf_run {env : Env} : ∀ (l : List (Str × NameKind)) (cs : List (Str × Addr)), (∀ y ∈ l, y.2 = .free → ∃ c, env.cells.lookup y.1 = some c) →
    (forIn l cs fun (x : Str × NameKind) (r : List (Str × Addr)) => (match x with
      | (name, kind) => if (kind == NameKind.free) = true then do let a ← cellOf env name; pure (ForInStep.yield ((name, a) :: r)) else pure (ForInStep.yield r) : Sem (ForInStep (List (Str × Addr))))) = (pure (clOf env l cs) : Sem _)
  | [], cs, _ => by rw [List.forIn_nil]; rfl
  | (n, k) :: r, cs, h => by
    rw [List.forIn_cons]
    have hr := fun cs' => clOf_run r cs' fun y hy => h y (List.mem_cons_of_mem _ hy)
    by_cases hk : (k == NameKind.free) = true
    · obtain ⟨c, hc⟩ := h (n, k) List.mem_cons_self (by simpa using hk)
      have hc : env.cells.lookup n = some c := hc
      simp only [hk, if_true, cellOf, hc, pure_bind, clOf, Option.getD_some]
      exact hr _
    · have hk : (k == NameKind.free) = false := by simpa using hk
      simp only [hk, Bool.false_eq_true, if_false, pure_bind, clOf]
      exact hr _
theorem closure_ok {env : Env} {scope : Scope} (h : ∀ y ∈ scope.names, y.2 = .free → ∃ c, env.cells.lookup y.1 = some c) : closureFor scope env = pure (clOf env scope.names []) := by
  unfold closureFor
  have e := clOf_run scope.names [] h
  first
    | exact e
    | (simp only [bind_pure_comp, id_map'] ; exact e)
    | (rw [show (do let cs ← _; return cs) = _ from bind_pure _]; exact e)
    | (simp; simpa using e)
theorem clOf_sub {env : Env} : ∀ (l : List (Str × NameKind)) (cs : List (Str × Addr)), (∀ y ∈ l, y.2 = .free → ∃ c, env.cells.lookup y.1 = some c) → (∀ p ∈ cs, env.cells.lookup p.1 = some p.2) →
    ∀ p ∈ clOf env l cs, env.cells.lookup p.1 = some p.2
  | [], cs, _, hc => hc
  | (n, k) :: r, cs, h, hc => by
    refine clOf_sub r _ (fun y hy => h y (List.mem_cons_of_mem _ hy)) ?_
    by_cases hk : (k == NameKind.free) = true
    · obtain ⟨c, e⟩ := h (n, k) List.mem_cons_self (by simpa using hk)
      have e : env.cells.lookup n = some c := e
      rw [if_pos hk]
      intro p hp
      rcases List.mem_cons.mp hp with rfl | hp
      · show env.cells.lookup n = some ((env.cells.lookup n).getD 0)
        rw [e]; rfl
      · exact hc p hp
    · rw [if_neg hk]; exact hc
theorem clOf_keep {env : Env} : ∀ (l : List (Str × NameKind)) (cs : List (Str × Addr)) (p : Str × Addr), p ∈ cs → p ∈ clOf env l cs
  | [], cs, p, h => h
  | (n, k) :: r, cs, p, h => by
    refine clOf_keep r _ p ?_
    split
    · exact List.mem_cons_of_mem _ h
    · exact h
theorem clOf_has {env : Env} : ∀ (l : List (Str × NameKind)) (cs : List (Str × Addr)) (x : Str), (x, NameKind.free) ∈ l → ∃ c, (x, c) ∈ clOf env l cs
  | (n, k) :: r, cs, x, h => by
    rcases List.mem_cons.mp h with h | h
    · have e1 : x = n := congrArg Prod.fst h
      have e2 : NameKind.free = k := congrArg Prod.snd h
      subst e1 e2
      refine ⟨(env.cells.lookup x).getD 0, clOf_keep r _ (x, _) ?_⟩
      rw [if_pos (by simp)]
      exact List.mem_cons_self
    · exact clOf_has r _ x h
theorem lookup_of_mem {α : Type} : ∀ {l : List (Str × α)} {x : Str} {c : α}, (x, c) ∈ l → ∃ d, l.lookup x = some d
  | (n, v) :: r, x, c, h => by
    by_cases e : x == n
    · exact ⟨v, by simp [List.lookup_cons, e]⟩
    · rcases List.mem_cons.mp h with h | h
      · cases h; exact absurd (by simp) e
      · obtain ⟨d, hd⟩ := lookup_of_mem h
        exact ⟨d, by simp [List.lookup_cons, e, hd]⟩
noncomputable def csOk (sc : Scope) (NX N' : List Str) (cs : List (Option Nat)) (scope : Scope) : Bool :=
  (scope.kind == .function) && (scope.names.all fun y => y.2 != .cell) && (scope.names.all fun y => y.2 != .local || scope.names.lookup y.1 == some .local) &&
  (scope.names.all fun y => y.2 != .free || (sc.names.lookup y.1 == some .cell || sc.names.lookup y.1 == some .free)) &&
  decide (cs.length = N'.length) &&
  ((List.range cs.length).all fun j => match cs[j]? with
    | some (some i) => (match N'[j]? with | some x => decide (NX[i]? = some x) && (scope.names.lookup x == some .free) | none => false)
    | _ => true)
structure CsOk (sc : Scope) (NX N' : List Str) (cs : List (Option Nat)) (scope : Scope) : Prop where
  kind : scope.kind = .function
  nocell : ∀ y ∈ scope.names, y.2 ≠ .cell
  names : ∀ y ∈ scope.names, y.2 = .local → scope.names.lookup y.1 = some .local
  free : ∀ y ∈ scope.names, y.2 = .free → sc.names.lookup y.1 = some .cell ∨ sc.names.lookup y.1 = some .free
  len : cs.length = N'.length
  capt : ∀ (j i : Nat) (x : Str), cs[j]? = some (some i) → N'[j]? = some x → NX[i]? = some x ∧ scope.names.lookup x = some .free
theorem CsOk.of {sc : Scope} {NX N' : List Str} {cs : List (Option Nat)} {scope : Scope} (h : csOk sc NX N' cs scope = true) : CsOk sc NX N' cs scope := by
  unfold csOk at h
  simp only [Bool.and_eq_true] at h
  obtain ⟨⟨⟨⟨⟨h1, h2⟩, h3⟩, h4⟩, h5⟩, h6⟩ := h
  refine ⟨by simpa using h1, fun y hy => ?_, fun y hy e => ?_, fun y hy e => ?_, of_decide_eq_true h5, fun j i x e1 e2 => ?_⟩
  · have := List.all_eq_true.mp h2 y hy; simpa using this
  · have := List.all_eq_true.mp h3 y hy; simpa [e] using this
  · have := List.all_eq_true.mp h4 y hy; simpa [e] using this
  · have hj : j < cs.length := (List.getElem?_eq_some_iff.mp e1).1
    have := List.all_eq_true.mp h6 j (List.mem_range.mpr hj)
    rw [e1, e2] at this
    simpa using this
noncomputable def cxC (X : Cx) (N' : List Str) (scope : Scope) (fp : List Addr) (s3 : Shared) (H3 : Hp) : Cx where
  prog := X.prog
  w := X.w
  K := X.K
  mg := X.mg
  base := X.base
  A := X.A
  N := N'
  s₀ := s3
  H₀ := H3
  env := compEnvC scope (clOf X.env scope.names []) s3.heap.objs.size X.env
  outer := X.stack
  stack := X.stack
  ex := fp
  fn := fun _ => false
  calm := X.calm
  pn := []
  xe := fun _ _ => False
noncomputable def cst (cs : List (Option Nat)) (σ : St) : St := cs.map fun o => match o with | some i => (σ[i]?).getD none | none => none
noncomputable def PTs (X : Cx) (ifs : List Expr) (t : TT) : Prop :=
  ∀ (pins : List (Addr × Obj)) (s : Shared) (σ : St) (H : Hp) (Q : Bool → Hp → Prop), Inv X pins σ H s → t σ H Q →
    wpAny (model X.prog X.w) X.A (forIn ifs true fun c r => if r = true then do let ok ← isTrue c X.env (eval c X.env); pure (ForInStep.yield ok) else pure (ForInStep.yield r)) (TP X pins σ Q) X.xe s
noncomputable def tT0 : TT := fun _ H Q => Q true H
theorem pts_nil {X : Cx} : PTs X [] tT0 := fun pins s σ H Q I h => wpAny_tests_nil ⟨H, I, h⟩
theorem pts_one {X : Cx} {c : Expr} {t : TT} (h : PT X c t) : PTs X [c] t := fun pins s σ H Q I q => wpAny_tests_one (h pins s σ H Q I q)
noncomputable def CompW (J : It) (g : TG) (tt : TT) (te : TE) (acc : Addr) (σ0 : St) (H0 : Hp) (Q : Hp → Prop) : Prop :=
  ∃ W : Nat → Nat → St → Hp → Prop, (∃ m, W 0 m σ0 H0) ∧ ∀ i m σ H, W i m σ H →
    (J.stop i H ∧ Q H) ∨ (J.go i H ∧ ∀ x H1, J.yld i H x H1 → g x σ H1 fun σ2 H2 => tt σ2 H2 fun b H3 =>
      if b = true then te σ2 H3 fun y H4 => ∃ ys, H4 acc = some (.lst ys) ∧ ys.length < sizeLine ∧ ∃ m', m' < m ∧ W (i + 1) m' σ2 (upd H4 acc (.lst (ys ++ [y])))
      else ∃ m', m' < m ∧ W (i + 1) m' σ2 H3)
noncomputable def tComp (cs : List (Option Nat)) (wi : TI) (g : TG) (tt : TT) (te : TE) : TE := fun σ H Q => wi σ H fun J H1 => ∀ acc, H1 acc = none → CompW J g tt te acc (cst cs σ) (upd H1 acc (.lst [])) (Q (.ref acc))
section
variable {prog : Program} {w : World} {A : Around} {R : Result → Shared → Prop} {s : Shared}
theorem compLoop_any {elt target iter : Expr} {ifs : List Expr} {scope : Scope} {pos : Pos} {it acc : Value} {env : Env} (I : Nat → Shared → Prop)
    (turn : ∀ n s, I n s → wpAny (model prog w) A (pyNext it) (fun r s₁ => match r with
      | none => R (.ok .next) s₁
      | some v => wpAny (model prog w) A (letOwnedTupleGo target it v) (fun _ s₁ => wpAny (model prog w) A (assign target env v) (fun _ s₂ =>
          wpAny (model prog w) A (forIn ifs true fun c r => if r = true then do let ok ← isTrue c env (eval c env); pure (ForInStep.yield ok) else pure (ForInStep.yield r)) (fun ok s₃ =>
            if ok = true then wpAny (model prog w) A (eval elt env) (fun x s₄ =>
              wpAny (model prog w) A (call (.builtin "list.append") [acc, x]) (fun _ s₅ => ∃ m, m < n ∧ I m s₅) (notedBy (model prog w) A env fun e s' => R (.error e) s') s₄) (notedBy (model prog w) A env fun e s' => R (.error e) s') s₃
            else ∃ m, m < n ∧ I m s₃) (notedBy (model prog w) A env fun e s' => R (.error e) s') s₂) (notedBy (model prog w) A env fun e s' => R (.error e) s') s₁) (notedBy (model prog w) A env fun e s' => R (.error e) s') s₁) (notedBy (model prog w) A env fun e s' => R (.error e) s') s)
    (n : Nat) (h : I n s) :
    codeAny (model prog w) A (.compLoop (.ListComp elt [⟨target, iter, ifs, 0⟩] scope pos) 0 it acc env) R s := by
  refine codeAny_loop rfl I (fun n s hI => ?_) n h
  show wpAny _ A ((compTurn (.ListComp elt [⟨target, iter, ifs, 0⟩] scope pos) 0 it acc env).onRaise (fun x => do noteFrame x env; theTreesLotGoes x)) _ _ s
  refine wpAny_noted ?_
  rw [compTurn_list]
  refine wpAny_bind (wpAny_standAt (wpAny_bind (wpAny_mono (turn n s hI) (fun r s₁ h₁ => ?_) fun _ _ h' => h')))
  cases r with
  | none => exact wpAny_pure h₁
  | some v =>
    refine wpAny_bind (wpAny_mono h₁ (fun _ s₁ h₁ => ?_) fun _ _ h' => h')
    refine wpAny_bind (wpAny_mono h₁ (fun _ s₂ h₂ => wpAny_bind (wpAny_mono h₂ (fun ok s₃ h₃ => ?_) fun _ _ h' => h')) fun _ _ h' => h')
    cases ok with
    | false => exact wpAny_pure ⟨rfl, h₃⟩
    | true =>
      exact wpAny_bind (wpAny_bind (wpAny_mono h₃ (fun x s₄ h₄ => wpAny_bind (wpAny_mono h₄ (fun _ s₅ h₅ => wpAny_pure (wpAny_pure ⟨rfl, h₅⟩)) fun _ _ h' => h')) fun _ _ h' => h'))
end
section
variable {X : Cx} {pins : List (Addr × Obj)} {σ : St} {H2 : Hp} {s2 : Shared}
theorem relabel_free {scope : Scope} {env : Env} : ∀ {l : List (Str × NameKind)} {x : Str} {k : NameKind},
    (l.map fun (n, k) => if (k == NameKind.free && env.scope.kind == .function && env.kindOf n == some .cell) then (n, NameKind.cell) else (n, k)).lookup x = some k →
    l.lookup x = some k ∨ (l.lookup x = some .free ∧ k = .cell)
  | [], x, k, h => by simp at h
  | (n, k') :: r, x, k, h => by
    have ih := @relabel_free scope env r x k
    rw [List.map_cons] at h
    by_cases hx : (x == n) = true
    · by_cases hc : (k' == NameKind.free && env.scope.kind == .function && env.kindOf n == some .cell) = true
      · simp only [hc, if_true, List.lookup_cons, hx] at h
        have e : k' = .free := by simp only [Bool.and_eq_true] at hc; simpa using hc.1.1
        simp only [List.lookup_cons, hx]
        exact .inr ⟨by rw [e], (Option.some.inj h).symm⟩
      · simp only [hc, if_false, List.lookup_cons, hx, Bool.false_eq_true] at h
        simp only [List.lookup_cons, hx]
        exact .inl h
    · have hx : (x == n) = false := by simpa using hx
      by_cases hc : (k' == NameKind.free && env.scope.kind == .function && env.kindOf n == some .cell) = true
      · simp only [hc, if_true, List.lookup_cons, hx] at h
        simp only [List.lookup_cons, hx]
        exact ih h
      · simp only [hc, if_false, List.lookup_cons, hx, Bool.false_eq_true] at h
        simp only [List.lookup_cons, hx]
        exact ih h
theorem comp_core {elt target iter : Expr} {ifs : List Expr} {scope : Scope} {pos : Pos} {E : Value → Shared → Prop} {N' : List Str} {cs : List (Option Nat)} {it : Addr} {fp : List Addr} {tn : Nat → Heap → Prop} {J : It} {g : TG} {tt : TT} {te : TE} {Q : VK}
    {RR : Value → Addr → Result → Shared → Prop} (hc : X.calm = true) (F : CsOk X.env.scope X.N N' cs scope)
    (hg : ∀ s3 H3, PG (cxC X N' scope fp s3 H3) target g) (ht : ∀ s3 H3, PTs (cxC X N' scope fp s3 H3) ifs tt) (he : ∀ s3 H3, PE (cxC X N' scope fp s3 H3) elt te)
    (I2 : Inv X pins σ H2 s2) (T : Turn X.prog X.w X.K target J fp it tn) (st2 : tn 0 s2.heap) (f2 : ∀ b ∈ fp, FpOk X pins H2 b)
    (hW : ∀ acc, H2 acc = none → CompW J g tt te acc (cst cs σ) (upd H2 acc (.lst [])) (Q (.ref acc)))
    (hRR : ∀ D C s' H' m, Inv X pins σ H' s' → s'.heap.Ns C m → H' C = none → C ≠ X.env.locals → X.s₀.heap.objs.size ≤ C → (∀ x c, X.env.cells.lookup x = some c → c ≠ C) → (∀ p ∈ X.pn ++ pins, p.1 ≠ C) → Q (.ref D) H' → RR (.ref D) C (.ok .next) s') :
    wpAny (model X.prog X.w) X.A (newList []) (fun acc s₃ => wpAny (model X.prog X.w) X.A (newFunctionEnv scope X.env.globals (clOf X.env scope.names []) [] X.env.qual none .none (some X.env)) (fun cenv s₄ =>
      codeAny (model X.prog X.w) X.A (.compStart (.ListComp elt [⟨target, iter, ifs, 0⟩] scope pos) 0 (.ref it) acc { cenv with scope := relabel scope X.env }) (RR acc cenv.locals) s₄) E s₃) E s2 := by
  refine wpAny_newObj_type (wpAny_newFunctionEnv F.nocell (by intro y hy; simp at hy) (fun h₁ hns₁ hsb₁ => ?_) F.kind)
  dsimp only at hns₁ hsb₁ ⊢
  have hfree : ∀ y ∈ scope.names, y.2 = .free → ∃ c, X.env.cells.lookup y.1 = some c := fun y hy e => I2.ok.has y.1 (F.free y hy e)
  have sub : ∀ x c, (clOf X.env scope.names []).lookup x = some c → X.env.cells.lookup x = some c := fun x c e => clOf_sub scope.names [] hfree (by simp) (x, c) (PySem.mem_of_lookup e)
  obtain ⟨W, ⟨m0, w0⟩, turn⟩ := hW s2.heap.objs.size I2.fresh
  have I3 := I2.lnew (t' := s2.toks) (its := []) (ys := []) .nil (Nat.zero_le _)
  generalize hs3 : ({ s2 with heap := s2.heap.push { cls := .type "list", data := .seq ([] : List Value).toArray }, toks := s2.toks } : Shared) = s3 at I3
  generalize hH3 : upd H2 s2.heap.objs.size (HO.lst []) = H3 at I3 w0
  have e3 : s2.heap.push { cls := .type "list", dict := none, data := .seq ([] : List Value).toArray } = s3.heap := by rw [← hs3]
  rw [e3] at hns₁ hsb₁ ⊢
  have old : ∀ b o, s3.heap.get? b = some o → h₁.get? b = some o := fun b o e => hsb₁.extBut b o (Nat.ne_of_lt (Heap.lt_size e)) (Heap.get?_push_of_some _ e)
  have sz3 : s3.heap.objs.size = s2.heap.objs.size + 1 := by rw [← hs3]; exact Heap.size_push ..
  have fpn3 : ∀ b ∈ fp, H3 b = none := fun b hb => by
    obtain ⟨o, ho, _⟩ := T.obj 0 _ st2 b hb
    rw [← hH3, upd_ne (Nat.ne_of_lt (Heap.lt_size ho))]
    exact (f2 b hb).1
  have fplt : ∀ b ∈ fp, b < s3.heap.objs.size := fun b hb => by
    obtain ⟨o, ho, _⟩ := T.obj 0 _ st2 b hb
    exact Nat.lt_of_lt_of_le (Heap.lt_size ho) (by rw [sz3]; exact Nat.le_succ _)
  -- the block's own facts
  have okC : (cxC X N' scope fp s3 H3).Ok := by
    refine ⟨I3.ok.mod, F.kind, I3.ok.glob, I3.ok.blt, Nat.le_refl _, fun x y c h1 h2 => I3.ok.inj x y c (sub x c h1) (sub y c h2), fun x hx => ?_, fun x c h => (Bool.false_ne_true h).elim, I3.ok.hd, I3.ok.frames, .inl rfl, fun b hb => ⟨Nat.ne_of_lt (fplt b hb), fun x c e => (f2 b hb).2.2.2.2.1 x c (sub x c e)⟩,
      I3.bs, Nat.le_trans I3.ok.bsz I3.sz, fun b o e hb => ?_, fun b hb z => ?_, I3.stack, I3.stkFree⟩
    · have hx : scope.names.lookup x = some .free := by
        rcases hx with hx | hx
        · rcases relabel_free (scope := scope) (env := X.env) hx with q | ⟨q, _⟩
          · exact absurd rfl (F.nocell _ (PySem.mem_of_lookup q))
          · exact q
        · rcases relabel_free (scope := scope) (env := X.env) hx with q | ⟨q, z⟩
          · exact q
          · cases z
      obtain ⟨c, hm⟩ := clOf_has (env := X.env) scope.names [] x (PySem.mem_of_lookup hx)
      exact lookup_of_mem hm
    · rcases (f2 b hb).2.2.2.1 with z | z
      · exact I3.ok.noex b o e z
      · have h1 := Heap.lt_size e
        have h2 := I3.ok.bsz
        exact absurd (Nat.lt_of_lt_of_le h1 h2) (Nat.not_lt.mpr z)
    · rcases List.mem_cons.mp (I3.stkSub b z) with q | q
      · exact (f2 b hb).2.1 q
      · exact (f2 b hb).2.2.1 q
  have σlen : (cst cs σ).length = N'.length := by unfold cst; rw [List.length_map]; exact F.len
  have IC : Inv (cxC X N' scope fp s3 H3) [] (cst cs σ) H3 { s3 with heap := h₁, toks := s3.toks + ([] : List (Str × Value)).length } := by
    refine ⟨okC, rfl, I3.bare, Un.kept old, ⟨_, hns₁, fun j x v e1 e2 e3 => ?_⟩, fun x c e => ?_, I3.fresh, fun x c e => I3.freeC x c (sub x c e), fun p hp => absurd (show p ∈ ([] : List (Addr × Obj)) from hp) (by simp), I3.hok.kept old, σlen⟩
    · -- a name of the block that has a value is an outer one
      obtain ⟨i, hi, hv⟩ : ∃ i, cs[j]? = some (some i) ∧ σ[i]? = some (some v) := by
        unfold cst at e2
        rw [List.getElem?_map] at e2
        cases q : cs[j]? with
        | none => rw [q] at e2; cases e2
        | some o =>
          rw [q] at e2
          cases o with
          | none => cases e2
          | some i =>
            refine ⟨i, rfl, ?_⟩
            have e2 : (σ[i]?).getD none = some v := Option.some.inj e2
            cases q2 : σ[i]? with
            | none => rw [q2] at e2; cases e2
            | some z => rw [q2] at e2; exact congrArg some e2
      obtain ⟨hN, hf⟩ := F.capt j i x hi e1
      obtain ⟨m, hn, hl⟩ := I3.loc
      have hk := F.free _ (PySem.mem_of_lookup hf) rfl
      obtain ⟨u, r, l⟩ := hl i x v hN hv (.inr hk)
      refine ⟨u, r, .inr ⟨?_, ?_⟩⟩
      · rcases e3 with e3 | e3 | e3
        · rcases relabel_free (scope := scope) (env := X.env) e3 with q | ⟨_, z⟩
          · rw [hf] at q; cases q
          · cases z
        · exact .inl e3
        · exact .inr e3
      · rcases l with ⟨z, _⟩ | ⟨_, c, hc', hcell⟩
        · have z : X.env.scope.names.lookup x = some .local := z
          rcases hk with k | k <;> (rw [k] at z; cases z)
        · obtain ⟨c2, hm⟩ := clOf_has (env := X.env) scope.names [] x (PySem.mem_of_lookup hf)
          obtain ⟨c3, h3⟩ := lookup_of_mem hm
          have e4 := sub x c3 h3
          rw [hc'] at e4
          cases e4
          obtain ⟨o, ho, hd⟩ := hcell
          exact ⟨c, h3, o, old _ _ ho, hd⟩
    · obtain ⟨v, o, ho, hd⟩ := I3.cell x c (sub x c e)
      exact ⟨v, o, old _ _ ho, hd⟩
  have st4 : tn 0 h₁ := T.keep 0 s2.heap h₁ st2 fun b hb o e => old b o (by rw [← e3]; exact Heap.get?_push_of_some _ e)
  -- what stays true of the iterator's objects through the loop
  have stat : ∀ {H' : Hp}, (∀ b ∈ fp, H' b = none) → ∀ b ∈ fp, FpOk (cxC X N' scope fp s3 H3) [] H' b := fun hn b hb =>
    ⟨hn b hb, Nat.ne_of_lt (fplt b hb), okC.exfs b hb, .inl hb, fun x c e => (f2 b hb).2.2.2.2.1 x c (sub x c e), fun p hp => absurd (show p ∈ ([] : List (Addr × Obj)) from hp) (by simp)⟩
  have noE : ∀ {α : Type} {t : Sem α} {Q' : α → Shared → Prop} {E' : Value → Shared → Prop} {s' : Shared}, wpAny (model X.prog X.w) X.A t Q' (fun _ _ => False) s' → wpAny (model X.prog X.w) X.A t Q' E' s' := fun h => wpAny_mono h (fun _ _ q => q) fun _ _ f => f.elim
  -- behind the loop
  have fin : ∀ {σ' : St} {H' : Hp} {s' : Shared}, Inv (cxC X N' scope fp s3 H3) [] σ' H' s' → Q (.ref s2.heap.objs.size) H' → RR (.ref s2.heap.objs.size) s3.heap.objs.size (.ok .next) s' := fun {σ' H' s'} I' q => by
    obtain ⟨m, hn, _⟩ := I'.loc
    refine hRR _ _ s' H' m (I3.call' I'.os I'.base I'.hok I'.bare fun b hb => ?_) hn I'.free (Nat.ne_of_gt I3.lt) I3.sz (fun x c e z => ?_) (fun p hp z => ?_) q
    · obtain ⟨_, g1, _, g3, g4, g5⟩ := f2 b hb
      exact ⟨g3, g1, g4, g5⟩
    · obtain ⟨v, o, ho, _⟩ := I3.cell x c e
      exact absurd (Heap.lt_size ho) (by rw [z]; exact Nat.lt_irrefl _)
    · exact absurd (Heap.lt_size (I3.pin p hp).1) (by rw [z]; exact Nat.lt_irrefl _)
  have loop : codeAny (model X.prog X.w) X.A (.compLoop (.ListComp elt [⟨target, iter, ifs, 0⟩] scope pos) 0 (.ref it) (.ref s2.heap.objs.size) (cxC X N' scope fp s3 H3).env)
      (RR (.ref s2.heap.objs.size) s3.heap.objs.size) { s3 with heap := h₁, toks := s3.toks + ([] : List (Str × Value)).length } := by
    refine compLoop_any (fun n s' => ∃ i σ' H', Inv (cxC X N' scope fp s3 H3) [] σ' H' s' ∧ tn i s'.heap ∧ (∀ b ∈ fp, H' b = none) ∧ W i n σ' H') ?_ m0 ⟨0, _, H3, IC, st4, fpn3, w0⟩
    rintro n s4 ⟨i, σ4, H4, I4, st4, fr4, w4⟩
    rcases turn i n σ4 H4 w4 with ⟨stop, qn⟩ | ⟨go, step⟩
    · refine thn (T.done (cxC X N' scope fp s3 H3) rfl rfl rfl hc i [] s4 σ4 H4 _ I4 (stat fr4) st4 stop) fun r s5 hh => ?_
      obtain ⟨hr, I5⟩ := hh
      subst hr
      exact fin I5 qn
    · refine thn (T.item (cxC X N' scope fp s3 H3) rfl rfl rfl hc i [] s4 σ4 H4 _ I4 (stat fr4) st4 go) fun r s5 hh => ?_
      obtain ⟨u, hr, h5⟩ := hh
      subst hr
      refine thn h5 fun _ s6 hh => ?_
      obtain ⟨x, H6, I6, r6, y6, st6, fr6⟩ := hh
      have I6' := I6.pinned (stat fr6) (T.obj _ _ st6)
      have keepT : ∀ {σ7 : St} {H7 : Hp} {s7 : Shared}, Inv (cxC X N' scope fp s3 H3) ([] ++ pinsAt fp s6.heap) σ7 H7 s7 → tn (i + 1) s7.heap ∧ ∀ b ∈ fp, H7 b = none := fun {σ7 H7 s7} I7 =>
        ⟨T.keep _ _ _ st6 fun b hb o e => (I7.pin (b, o) (List.mem_append_right _ (List.mem_append_right _ (mem_pinsAt hb e)))).1, fun b hb => by
          obtain ⟨o, e, d⟩ := T.obj _ _ st6 b hb
          exact (I7.pin (b, o) (List.mem_append_right _ (List.mem_append_right _ (mem_pinsAt hb e)))).2.1⟩
      refine noE (thn (hg s3 H3 _ s6 σ4 H6 x u _ I6' r6 (step x H6 y6)) fun _ s7 hh => ?_)
      obtain ⟨σ7, H7, I7, q7⟩ := hh
      refine noE (thn (ht s3 H3 _ s7 σ7 H7 _ I7 q7) fun b s8 hh => ?_)
      obtain ⟨H8, I8, q8⟩ := hh
      cases b with
      | false =>
        rw [if_neg Bool.false_ne_true] at q8 ⊢
        obtain ⟨m', hm, w8⟩ := q8
        obtain ⟨t8, n8⟩ := keepT I8
        exact ⟨m', hm, i + 1, σ7, H8, I8.unpinned, t8, n8, w8⟩
      | true =>
        rw [if_pos rfl] at q8 ⊢
        refine noE (thn (he s3 H3 _ s8 σ7 H8 _ I8 q8) fun v s9 hh => ?_)
        obtain ⟨y, H9, I9, r9, ys, hacc, hz, m', hm, w9⟩ := hh
        refine noE (thn (mt_append (X := cxC X N' scope fp s3 H3) _ s9 σ7 H9 (.ref s2.heap.objs.size) [y] (.ref s2.heap.objs.size) [v] (fun _ H' => W (i + 1) m' σ7 H') I9 rfl (.cons r9 .nil) ⟨_, ys, y, rfl, rfl, hacc, hz, w9⟩) fun _ s10 hh => ?_)
        obtain ⟨_, H10, I10, _, w10⟩ := hh
        obtain ⟨t10, n10⟩ := keepT I10
        exact ⟨m', hm, i + 1, σ7, H10, I10.unpinned, t10, n10, w10⟩
  have e5 : ({ s2 with heap := h₁, toks := s2.toks + ([] : List (Str × Value)).length } : Shared) = { s3 with heap := h₁, toks := s3.toks + ([] : List (Str × Value)).length } := by rw [← hs3]
  rw [e5]
  exact codeAny_compStart_list loop (T.self _ 0 _ _ _ st4 loop)
end
section
variable {X : Cx}
theorem pe_comp {elt target iter : Expr} {ifs : List Expr} {scope : Scope} {pos : Pos} {wi : TI} {g : TG} {tt : TT} {te : TE} {sc : Scope} {NX : List Str} (N' : List Str) (cs : List (Option Nat)) (hc : X.calm = true)
    (hi : PI X target iter wi) (hg : ∀ fp s3 H3, PG (cxC X N' scope fp s3 H3) target g) (ht : ∀ fp s3 H3, PTs (cxC X N' scope fp s3 H3) ifs tt) (he : ∀ fp s3 H3, PE (cxC X N' scope fp s3 H3) elt te)
    (hsc : X.env.scope = sc) (hN : X.N = NX) (hcs : csOk sc NX N' cs scope = true) (hs : ∀ x, foldedSetIterable iter X.env x = pure x := by intro _; rfl) :
    PE X (.ListComp elt [⟨target, iter, ifs, 0⟩] scope pos) (tComp cs wi g tt te) := by
  intro pins s σ H Q I h
  subst hsc hN
  have F := CsOk.of hcs
  rw [eval_ListComp]
  refine wpAny_comprehension_free (use := none) rfl hs (closure_ok fun y hy e => I.ok.has y.1 (F.free y hy e)) F.kind F.names ?_
  refine thn (hi pins s σ H _ I h) fun v s1 h1 => thn h1 fun itv s2 h2 => ?_
  obtain ⟨it, fp, tn, J, H2, rfl, I2, T, st2, f2, hW⟩ := h2
  refine comp_core (RR := fun acc C => compPost (model X.prog X.w) X.A X.xe none (EP X pins σ Q) acc C) (Q := Q) hc F (hg fp) (ht fp) (he fp) I2 T st2 f2 hW ?_
  intro D C s' H' m I' hn hC hL hsz hcell hpin q
  refine ⟨m, hn, fun h' hs' => ⟨.ref D, H', ?_, rfl, q⟩⟩
  exact I'.turned (t' := s'.toks) (it := C) (fun b o hb e => (hs'.2 b hb).trans e) hC hL (.inr hsz) hcell hpin
theorem ps_setC {i : Nat} {y : Str} {py spos : Pos} {elt target iter : Expr} {ifs : List Expr} {scope : Scope} {pos : Pos} {wi : TI} {g : TG} {tt : TT} {te : TE} {sc : Scope} {NX : List Str} (N' : List Str) (cs : List (Option Nat)) (hc : X.calm = true)
    (hND : X.N.Nodup) (hiN : X.N[i]? = some y) (hy : X.env.scope.names.lookup y = some .local)
    (hi : PI X target iter wi) (hg : ∀ fp s3 H3, PG (cxC X N' scope fp s3 H3) target g) (ht : ∀ fp s3 H3, PTs (cxC X N' scope fp s3 H3) ifs tt) (he : ∀ fp s3 H3, PE (cxC X N' scope fp s3 H3) elt te)
    (hsc : X.env.scope = sc) (hN : X.N = NX) (hcs : csOk sc NX N' cs scope = true)
    (hsw : swapsWith (.ListComp elt [⟨target, iter, ifs, 0⟩] scope pos) (some (.Name y py)) spos.line X.env = pure true)
    (hs : ∀ x, foldedSetIterable iter X.env x = pure x := by intro _; rfl) :
    PS X (.Assign [.Name y py] (.ListComp elt [⟨target, iter, ifs, 0⟩] scope pos) spos) (tAsg (tComp cs wi g tt te) (gName i)) := by
  intro pins s σ H D I h
  subst hsc hN
  have F := CsOk.of hcs
  rw [exec_Assign_Name_used _ _ _ _ hsw]
  refine wpAny_bind (wpAny_standAt (wpAny_bind ?_))
  show wpAny _ X.A (do let _ ← comprehension (.ListComp elt [⟨target, iter, ifs, 0⟩] scope pos) scope X.env _ (newList []) false (eval iter X.env) (some (assign (.Name y py) X.env))) _ _ s
  refine wpAny_bind (wpAny_mono (wpAny_comprehension_free (use := some (assign (.Name y py) X.env)) (Q := fun _ s' => SP X pins D .next s') rfl hs (closure_ok fun y hy e => I.ok.has y.1 (F.free y hy e)) F.kind F.names ?_) (fun _ s' hq => wpAny_pure (wpAny_pure hq)) fun _ _ e => e)
  refine thn (hi pins s σ H _ I h) fun v s1 h1 => thn h1 fun itv s2 h2 => ?_
  obtain ⟨it, fp, tn, J, H2, rfl, I2, T, st2, f2, hW⟩ := h2
  refine comp_core (RR := fun acc C => compPost (model X.prog X.w) X.A X.xe (some (assign (.Name y py) X.env)) (fun _ s' => SP X pins D .next s') acc C) (Q := fun x H' => gName i x σ H' D.nx) hc F (hg fp) (ht fp) (he fp) I2 T st2 f2 hW ?_
  intro A C s' H' m I' hn hC hL hsz hcell hpin q
  show wpAny _ X.A (assign (.Name y py) X.env (.ref A)) _ _ s'
  refine wpAny_assign_Name (store_ok2 I' hND hiN (.inl hy) (v := .ref A) rfl (fun s'' I'' ⟨a, hsa, ha⟩ => ?_) (.inr hy))
  have hCa : C ≠ a := by
    rcases ha with rfl | ha
    · exact hL
    · exact fun z => hcell _ _ ha z.symm
  refine ⟨m, hn.sameBut hsa hCa, fun h' hs' => ⟨_, H', ?_, q⟩⟩
  exact I''.turned (t' := s''.toks) (it := C) (fun b o hb e => (hs'.2 b hb).trans e) hC hL (.inr hsz) hcell hpin
end
end L3
namespace L3
open PySem PySem.Spec PyProof.Rows L2
section
variable {X : Cx}
noncomputable def rInsert : V → List V → Hp → VK → Prop := fun x vs H Q => ∃ l xs i y, x = .ref l ∧ vs = [.int i, y] ∧ H l = some (.lst xs) ∧ 0 ≤ i ∧ i ≤ xs.length ∧ xs.length < sizeLine ∧ Q .non (upd H l (.lst (xs.take i.toNat ++ y :: xs.drop i.toNat)))
theorem insert_eq (its : List Value) (i : Int) (u : Value) (h0 : 0 ≤ i) (h1 : i ≤ its.length) :
    (fun xs : Array Value => have k := if i < 0 then (i + ((xs.size : Nat) : Int)).toNat else min i.toNat xs.size; (xs.extract 0 k).push u ++ xs.extract k) its.toArray = (its.take i.toNat ++ u :: its.drop i.toNat).toArray := by
  have e : (if i < 0 then (i + ((its.toArray.size : Nat) : Int)).toNat else min i.toNat its.toArray.size) = i.toNat := by
    rw [if_neg (by lia), List.size_toArray]; lia
  show ((its.toArray.extract 0 _).push u ++ its.toArray.extract _) = _
  rw [e]
  apply Array.ext'
  simp
  exact List.take_of_length_le (by rw [List.length_drop]; lia)
theorem mt_insert : MtM X "list.insert" rInsert := by
  intro pins s σ H x vs v us Q I rx rv h
  obtain ⟨l, xs, i, y, rfl, rfl, hH, h0, h1, hz, q⟩ := h
  cases rx
  obtain ⟨u1, u2, rfl, ⟨t, rfl⟩, ru⟩ := rv.two
  obtain ⟨z, its, n, r, hl, e⟩ := I.lstM hH
  have hs := sizeLine_eq
  have hfit : ¬ (!Builtin.List.listFitsIndex i) = true := by
    have q : Builtin.List.listFitsIndex i = true := by
      unfold Builtin.List.listFitsIndex
      simp only [Bool.and_eq_true, decide_eq_true_eq]
      constructor <;> lia
    rw [q]; decide
  refine call_meets F.slot_list_insert ⟨_, e, rfl⟩ F.entry_list_insert (F.args_list_insert_3 _ _ _) (AutoListH.list_insert_list_int_val_1 l its.toArray n i t u2 hfit (by rw [List.size_toArray]; lia)) ⟨e, ?_⟩
  refine ⟨.non, _, I.lset (its' := its.take i.toNat ++ u2 :: its.drop i.toNat) hH e (insert_eq its i u2 h0 (by lia)) ((r.take _).append (.cons ru (r.drop _))) ?_, rfl, q⟩
  simp only [List.length_append, List.length_take, List.length_cons, List.length_drop]
  lia
noncomputable def tTupN (t : TA) : TE := fun σ H Q => t σ H fun xs H1 => xs.length ≤ sizeLine ∧ New H1 (.tup xs) Q
noncomputable def tLstN (t : TA) : TE := fun σ H Q => t σ H fun xs H1 => xs.length ≤ sizeLine ∧ New H1 (.lst xs) Q
theorem pe_tupN {es : List Expr} {t : TA} {x1} {pos : Pos} (h : PA X es t) : PE X (.Tuple es x1 pos) (tTupN t) := by
  intro pins s σ H Q I hq
  refine wpAny_Tuple_spliced (thn (h pos pins s σ H _ I hq) fun us s1 ⟨xs, H1, I1, r, z, q⟩ => ⟨by rw [← r.length]; exact z, ?_⟩)
  refine ⟨.ref s1.heap.objs.size, upd H1 s1.heap.objs.size (.tup xs), I1.laid (t' := s1.toks) (fun b u e => Heap.get?_push_of_some _ e) (Nat.le_refl _) ?_, rfl, q.at I1.fresh⟩
  exact ⟨z, us, r, ⟨_, Heap.get?_push_size _ rfl, rfl, _, rfl⟩⟩
theorem pe_lstN {es : List Expr} {t : TA} {pos : Pos} (h : PA X es t) : PE X (.List es pos) (tLstN t) := by
  intro pins s σ H Q I hq
  refine wpAny_List_spliced (thn (h pos pins s σ H _ I hq) fun us s1 ⟨xs, H1, I1, r, z, q⟩ => ⟨by rw [← r.length]; exact z, ?_⟩)
  refine ⟨.ref s1.heap.objs.size, upd H1 s1.heap.objs.size (.lst xs), I1.laid (t' := s1.toks) (fun b u e => Heap.get?_push_of_some _ e) (Nat.le_refl _) ?_, rfl, q.at I1.fresh⟩
  exact ⟨z, us, 0, r, Heap.get?_push_size _ rfl⟩
noncomputable def rListN (K : PySem.W.Frag) : List V → Hp → VK → Prop := fun xs H Q => ∃ p ys, xs = [.ref p] ∧ (SqL K H p ys ∨ SqT K H p ys) ∧ New H (.lst ys) Q
theorem call_listN : CallR X (.type "list") (rListN X.K) := by
  intro pins s σ H xs us Q I r h
  obtain ⟨p, ys, e, hq, q⟩ := h
  exact call_list_of pins s σ H xs us Q I r ⟨p, ys, e, hq, fun l n => q.at n⟩
noncomputable def tDictN : TE := fun _ H Q => New H (.dK []) Q
theorem pe_dictN {pos : Pos} : PE X (.Dict [] [] pos) tDictN := fun pins s σ H Q I h => pe_dnewK pins s σ H Q I fun p n => h.at n
end
end L3
namespace L3
open PySem PySem.Spec PyProof.Rows L2
inductive D where
  | non | bl (b : Bool) | int (i : Int) | str (x : Str) | tup (xs : List D) | lst (xs : List D) | emp
mutual
noncomputable def D.dep : D → Nat
  | .tup xs => deps xs + 1
  | .lst xs => deps xs + 1
  | _ => 0
noncomputable def deps : List D → Nat
  | [] => 0
  | x :: r => max x.dep (deps r)
end
mutual
/-- what == tells -/
noncomputable def D.eqv : D → D → Bool
  | .non, .non => true
  | .bl a, .bl b => a == b
  | .bl a, .int j => (if a then 1 else 0) == j
  | .int i, .bl b => i == (if b then 1 else 0)
  | .int i, .int j => i == j
  | .str x, .str y => x == y
  | .tup xs, .tup ys => eqvs xs ys
  | .lst xs, .lst ys => eqvs xs ys
  | .emp, .emp => true
  | _, _ => false
noncomputable def eqvs : List D → List D → Bool
  | [], [] => true
  | x :: r, y :: q => x.eqv y && eqvs r q
  | _, _ => false
end
mutual
theorem D.eqv_refl : ∀ d : D, d.eqv d = true
  | .non => rfl
  | .bl b => by simp [D.eqv]
  | .int i => by simp [D.eqv]
  | .str x => by simp [D.eqv]
  | .tup xs => by rw [D.eqv]; exact eqvs_refl xs
  | .lst xs => by rw [D.eqv]; exact eqvs_refl xs
  | .emp => rfl
theorem eqvs_refl : ∀ xs : List D, eqvs xs xs = true
  | [] => rfl
  | x :: r => by rw [eqvs, D.eqv_refl x, eqvs_refl r]; rfl
end
mutual
/-- no bool and no dict in it -/
noncomputable def D.pure : D → Bool
  | .bl _ => false
  | .emp => false
  | .tup xs => pures xs
  | .lst xs => pures xs
  | _ => true
noncomputable def pures : List D → Bool
  | [] => true
  | x :: r => x.pure && pures r
end
mutual
theorem D.eqv_iff : ∀ d e : D, d.pure = true → e.pure = true → d.eqv e = true → d = e
  | .non, e, _, pe, h => by cases e <;> simp_all [D.eqv]
  | .bl b, e, pd, _, _ => by simp [D.pure] at pd
  | .int i, e, _, pe, h => by cases e <;> simp_all [D.eqv, D.pure]
  | .str x, e, _, pe, h => by cases e <;> simp_all [D.eqv]
  | .tup xs, e, pd, pe, h => by
    cases e with
    | tup ys => rw [D.eqv] at h; rw [D.pure] at pd pe; rw [eqvs_iff xs ys pd pe h]
    | _ => simp [D.eqv] at h
  | .lst xs, e, pd, pe, h => by
    cases e with
    | lst ys => rw [D.eqv] at h; rw [D.pure] at pd pe; rw [eqvs_iff xs ys pd pe h]
    | _ => simp [D.eqv] at h
  | .emp, e, _, pe, h => by cases e <;> simp_all [D.eqv]
theorem eqvs_iff : ∀ xs ys : List D, pures xs = true → pures ys = true → eqvs xs ys = true → xs = ys
  | [], ys, _, _, h => by cases ys <;> simp_all [eqvs]
  | x :: r, [], _, _, h => by simp [eqvs] at h
  | x :: r, y :: q, px, py, h => by
    rw [pures, Bool.and_eq_true] at px py
    rw [eqvs, Bool.and_eq_true] at h
    rw [D.eqv_iff x y px.1 py.1 h.1, eqvs_iff r q px.2 py.2 h.2]
end
theorem eqv_ne {d e : D} (pd : d.pure = true) (pe : e.pure = true) (h : d ≠ e) : d.eqv e = false := by
  cases q : d.eqv e with
  | false => rfl
  | true => exact absurd (D.eqv_iff d e pd pe q) h
mutual
inductive Rep (H : Hp) : V → D → Prop
  | non : Rep H .non .non
  | bl (b : Bool) : Rep H (.bl b) (.bl b)
  | int (i : Int) : Rep H (.int i) (.int i)
  | str (x : Str) : Rep H (.str x) (.str x)
  | tup {a : Addr} {vs : List V} {xs : List D} : H a = some (.tup vs) → Reps H vs xs → Rep H (.ref a) (.tup xs)
  | lst {a : Addr} {vs : List V} {xs : List D} : H a = some (.lst vs) → Reps H vs xs → Rep H (.ref a) (.lst xs)
  | emp {a : Addr} : H a = some (.dK []) → Rep H (.ref a) .emp
inductive Reps (H : Hp) : List V → List D → Prop
  | nil : Reps H [] []
  | cons {v : V} {d : D} {vs : List V} {ds : List D} : Rep H v d → Reps H vs ds → Reps H (v :: vs) (d :: ds)
end
mutual
theorem Rep.mono {H H' : Hp} {v : V} {d : D} : Rep H v d → Same H H' → Rep H' v d
  | .non => fun _ => .non
  | .bl b => fun _ => .bl b
  | .int i => fun _ => .int i
  | .str x => fun _ => .str x
  | .tup e r => fun s => .tup (s _ _ e) (r.mono s)
  | .lst e r => fun s => .lst (s _ _ e) (r.mono s)
  | .emp e => fun s => .emp (s _ _ e)
theorem Reps.mono {H H' : Hp} {vs : List V} {ds : List D} : Reps H vs ds → Same H H' → Reps H' vs ds
  | .nil => fun _ => .nil
  | .cons h r => fun s => .cons (h.mono s) (r.mono s)
end
theorem Reps.length {H : Hp} : ∀ {vs : List V} {ds : List D}, Reps H vs ds → vs.length = ds.length
  | _, _, .nil => rfl
  | _, _, .cons _ r => by rw [List.length_cons, List.length_cons, r.length]
theorem Reps.get {H : Hp} : ∀ {vs : List V} {ds : List D} {i : Nat} {v : V}, Reps H vs ds → vs[i]? = some v → ∃ d, ds[i]? = some d ∧ Rep H v d
  | _, _, i, v, .nil, e => by simp at e
  | _, _, 0, v, .cons h r, e => by simp at e; subst e; exact ⟨_, rfl, h⟩
  | _, _, i + 1, v, .cons h r, e => by
    obtain ⟨d, h1, h2⟩ := r.get (i := i) (v := v) (by simpa using e)
    exact ⟨d, by simpa using h1, h2⟩
theorem Reps.append {H : Hp} : ∀ {vs ws : List V} {ds es : List D}, Reps H vs ds → Reps H ws es → Reps H (vs ++ ws) (ds ++ es)
  | _, _, _, _, .nil => fun s => s
  | _, _, _, _, .cons h r => fun s => .cons h (r.append s)
theorem Reps.ints {H : Hp} : ∀ ns : List Int, Reps H (ns.map V.int) (ns.map D.int)
  | [] => .nil
  | n :: r => .cons (.int n) (Reps.ints r)
noncomputable def rm (p : Addr) (H : Hp) : Hp := fun b => if b = p then none else H b
theorem rm_self {p : Addr} {H : Hp} : rm p H p = none := by unfold rm; rw [if_pos rfl]
theorem rm_ne {p b : Addr} {H : Hp} (h : b ≠ p) : rm p H b = H b := by unfold rm; rw [if_neg h]
theorem rm_same {p : Addr} {H : Hp} : Same (rm p H) H := fun b o e => by
  by_cases h : b = p
  · rw [h, rm_self] at e; cases e
  · rwa [rm_ne h] at e
theorem rm_mono {p : Addr} {H H' : Hp} (s : Same (rm p H) H') : Same (rm p H) (rm p H') := fun b o e => by
  by_cases h : b = p
  · rw [h, rm_self] at e; cases e
  · rw [rm_ne h]; exact s b o e
theorem rm_of {p : Addr} {H H' : Hp} (s : Same H H') (n : H p = none) : Same H (rm p H') := fun b o e => by
  rw [rm_ne (ne_of_none e n)]; exact s b o e
theorem rm_upd {p : Addr} {H : Hp} {o : HO} : rm p (upd H p o) = rm p H := by
  funext b; unfold rm upd; split <;> rfl
section
variable {X : Cx} {pins : List (Addr × Obj)} {σ : St} {H : Hp} {s : Shared}
theorem get_toArray {us : List Value} {j : Nat} (h : j < us.toArray.size) {v : Value} (e : us[j]? = some v) : us.toArray[j] = v := by
  obtain ⟨h', q⟩ := List.getElem?_eq_some_iff.mp e
  simpa using q
theorem range_all_eqvs (f : Nat → Bool) : ∀ (xs ys : List D), xs.length = ys.length → (∀ (j : Nat) x y, xs[j]? = some x → ys[j]? = some y → f j = x.eqv y) → (List.range xs.length).all f = eqvs xs ys := by
  intro xs
  induction xs generalizing f with
  | nil => intro ys hl _; cases ys with
    | nil => rfl
    | cons _ _ => simp at hl
  | cons x r ih =>
    intro ys hl h
    cases ys with
    | nil => simp at hl
    | cons y q =>
      rw [List.length_cons, List.range_succ_eq_map, List.all_cons, List.all_map, eqvs, h 0 x y rfl rfl]
      congr 1
      exact ih (fun j => f (j + 1)) q (by simpa using hl) fun j x' y' e1 e2 => h (j + 1) x' y' (by simpa using e1) (by simpa using e2)
theorem eqvs_len : ∀ (xs ys : List D), xs.length ≠ ys.length → eqvs xs ys = false
  | [], [], h => absurd rfl h
  | [], _ :: _, _ => rfl
  | _ :: _, [], _ => rfl
  | x :: r, y :: q, h => by rw [eqvs, eqvs_len r q (by simpa using h), Bool.and_false]
noncomputable def ansAt (xs ys : List D) (j : Nat) : Bool := match xs[j]?, ys[j]? with
  | some x, some y => x.eqv y
  | _, _ => true
theorem range_min_eqvs (xs ys : List D) : ((List.range (min xs.length ys.length)).all (ansAt xs ys) && xs.length == ys.length) = eqvs xs ys := by
  by_cases h : xs.length = ys.length
  · rw [← h, Nat.min_self, beq_self_eq_true, Bool.and_true]
    refine range_all_eqvs _ xs ys h fun j x y e1 e2 => ?_
    unfold ansAt; rw [e1, e2]
  · rw [eqvs_len xs ys h, beq_eq_false_iff_ne.mpr h, Bool.and_false]
theorem IsTup.isT {h : Heap} {a : Addr} {its : Array Value} (t : IsTup h a its) : h.IsTuple a its := by
  first
  | exact t
  | (obtain ⟨o, e, c, n, d⟩ := t; exact ⟨o, e, c, n, d⟩)
  | (obtain ⟨o, e, c, n, d, _⟩ := t; exact ⟨o, e, c, n, d⟩)
mutual
theorem Rep.inj {H : Hp} {v : V} {d e : D} : Rep H v d → Rep H v e → d = e
  | .non, h => by cases h; rfl
  | .bl _, h => by cases h; rfl
  | .int _, h => by cases h; rfl
  | .str _, h => by cases h; rfl
  | .tup e r, h => by
    cases h with
    | tup e' r' => rw [e] at e'; cases e'; rw [r.inj r']
    | lst e' r' => rw [e] at e'; cases e'
    | emp e' => rw [e] at e'; cases e'
  | .lst e r, h => by
    cases h with
    | tup e' r' => rw [e] at e'; cases e'
    | lst e' r' => rw [e] at e'; cases e'; rw [r.inj r']
    | emp e' => rw [e] at e'; cases e'
  | .emp e, h => by
    cases h with
    | tup e' r' => rw [e] at e'; cases e'
    | lst e' r' => rw [e] at e'; cases e'
    | emp e' => rfl
theorem Reps.inj {H : Hp} {vs : List V} {ds es : List D} : Reps H vs ds → Reps H vs es → ds = es
  | .nil, h => by cases h; rfl
  | .cons h r, g => by
    cases g with
    | cons h' r' => rw [h.inj h', r.inj r']
end
theorem dep_get : ∀ {xs : List D} {j : Nat} {x : D}, xs[j]? = some x → x.dep ≤ deps xs
  | [], j, x, e => by simp at e
  | y :: r, 0, x, e => by simp at e; subst e; rw [deps]; lia
  | y :: r, j + 1, x, e => by
    have := dep_get (xs := r) (j := j) (x := x) (by simpa using e)
    rw [deps]; lia
theorem pure_get : ∀ {xs : List D} {j : Nat} {x : D}, pures xs = true → xs[j]? = some x → x.pure = true
  | [], j, x, _, e => by simp at e
  | y :: r, 0, x, h, e => by simp at e; subst e; rw [pures, Bool.and_eq_true] at h; exact h.1
  | y :: r, j + 1, x, h, e => by rw [pures, Bool.and_eq_true] at h; exact pure_get (j := j) h.2 (by simpa using e)
theorem tupAt {P : Program} {w : World} (hok : HOk P w H s.heap) {a : Addr} {vs : List V} (e : H a = some (.tup vs)) : ∃ its : List Value, Vals vs its ∧ s.heap.IsTuple a its.toArray := by
  obtain ⟨_, its, r, t⟩ := hok a _ e
  exact ⟨its, r, IsTup.isT t⟩
theorem lstAt {P : Program} {w : World} (hok : HOk P w H s.heap) {a : Addr} {vs : List V} (e : H a = some (.lst vs)) : ∃ its : List Value, Vals vs its ∧ s.heap.IsList a its.toArray := by
  obtain ⟨_, its, n, r, t⟩ := hok a _ e
  exact ⟨its, r, _, t, rfl, n, rfl⟩
theorem items_ans {A : Around} {vs ws : List V} {xs ys : List D} {us zs : List Value} (rx : Reps H vs xs) (ry : Reps H ws ys) (qx : Vals vs us) (qy : Vals ws zs)
    (ih : ∀ (j : Nat) x y v w u z, xs[j]? = some x → ys[j]? = some y → Rep H v x → Rep H w y → RelV v u → RelV w z → SeqAt.EqAt A s u z (x.eqv y)) :
    ∀ j (h1 : j < us.toArray.size) (h2 : j < zs.toArray.size), SeqAt.EqAt A s us.toArray[j] zs.toArray[j] (ansAt xs ys j) := fun j h1 h2 => by
  have l1 := qx.length
  have l2 := qy.length
  rw [List.size_toArray] at h1 h2
  have g1 : vs[j]? = some (vs[j]'(by lia)) := List.getElem?_eq_getElem (by lia)
  have g2 : ws[j]? = some (ws[j]'(by lia)) := List.getElem?_eq_getElem (by lia)
  obtain ⟨u, hu, ru⟩ := qx.get g1
  obtain ⟨z, hz, rz⟩ := qy.get g2
  obtain ⟨x, hx, px⟩ := rx.get g1
  obtain ⟨y, hy, py⟩ := ry.get g2
  rw [get_toArray _ hu, get_toArray _ hz]
  unfold ansAt
  rw [hx, hy]
  exact ih j x y _ _ u z hx hy px py ru rz
theorem in1_units (A : Around) : A.in1.units = A.units + 1 := rfl
theorem eqAt_n {P : Program} {w : World} (hok : HOk P w H s.heap) : ∀ (n : Nat) (A : Around) {v w : V} {d e : D} {u z : Value}, d.dep ≤ n → Rep H v d → Rep H w e → RelV v u → RelV w z → d.pure = true → e.pure = true → A.units + n < cLine →
    SeqAt.EqAt A s u z (d.eqv e) := by
  intro n
  induction n with
  | zero =>
    intro A v w d e u z hd rd re ru rz pd pe hu
    cases rd with
    | bl _ => simp [D.pure] at pd
    | emp _ => simp [D.pure] at pd
    | tup _ _ => simp [D.dep] at hd
    | lst _ _ => simp [D.dep] at hd
    | non =>
      cases ru
      cases re with
      | bl _ => simp [D.pure] at pe
      | emp _ => simp [D.pure] at pe
      | non => cases rz; exact SeqAt.EqAt.same .none
      | int j => obtain ⟨t, rfl⟩ := rz; exact SeqAt.EqAt.none_int j t
      | str y => obtain ⟨t, rfl⟩ := rz; exact SeqAt.EqAt.none_str y t
      | tup ea _ => cases rz; obtain ⟨its, _, ht⟩ := tupAt hok ea; exact SeqAt.EqAt.none_tuple ht (by lia)
      | lst ea _ => cases rz; obtain ⟨its, _, ht⟩ := lstAt hok ea; exact SeqAt.EqAt.none_list ht (by lia)
    | int i =>
      obtain ⟨t, rfl⟩ := ru
      cases re with
      | bl _ => simp [D.pure] at pe
      | emp _ => simp [D.pure] at pe
      | non => cases rz; exact SeqAt.EqAt.int_none i t
      | int j => obtain ⟨t', rfl⟩ := rz; exact SeqAt.EqAt.int_int i t j t'
      | str y => obtain ⟨t', rfl⟩ := rz; exact SeqAt.EqAt.int_str i t y t'
      | tup ea _ => cases rz; obtain ⟨its, _, ht⟩ := tupAt hok ea; exact SeqAt.EqAt.int_tuple i t ht (by lia)
      | lst ea _ => cases rz; obtain ⟨its, _, ht⟩ := lstAt hok ea; exact SeqAt.EqAt.int_list i t ht (by lia)
    | str x =>
      obtain ⟨t, rfl⟩ := ru
      cases re with
      | bl _ => simp [D.pure] at pe
      | emp _ => simp [D.pure] at pe
      | non => cases rz; exact SeqAt.EqAt.str_none x t
      | int j => obtain ⟨t', rfl⟩ := rz; exact SeqAt.EqAt.str_int x t j t'
      | str y => obtain ⟨t', rfl⟩ := rz; exact SeqAt.EqAt.str_str x t y t'
      | tup ea _ => cases rz; obtain ⟨its, _, ht⟩ := tupAt hok ea; exact SeqAt.EqAt.str_tuple x t ht (by lia)
      | lst ea _ => cases rz; obtain ⟨its, _, ht⟩ := lstAt hok ea; exact SeqAt.EqAt.str_list x t ht (by lia)
  | succ n ih =>
    intro A v w d e u z hd rd re ru rz pd pe hu
    by_cases h0 : d.dep ≤ n
    · exact ih A h0 rd re ru rz pd pe (by lia)
    · have ihn : ∀ {xs ys : List D}, deps xs ≤ n → pures xs = true → pures ys = true → ∀ (j : Nat) x y v w u z, xs[j]? = some x → ys[j]? = some y → Rep H v x → Rep H w y → RelV v u → RelV w z → SeqAt.EqAt A.in1 s u z (x.eqv y) :=
        fun {xs ys} hx px py j x y v w u z e1 e2 r1 r2 q1 q2 => ih A.in1 (Nat.le_trans (dep_get e1) hx) r1 r2 q1 q2 (pure_get px e1) (pure_get py e2) (by rw [in1_units]; lia)
      cases rd with
      | non => simp [D.dep] at h0
      | bl _ => simp [D.dep] at h0
      | int _ => simp [D.dep] at h0
      | str _ => simp [D.dep] at h0
      | emp _ => simp [D.dep] at h0
      | @tup a vs xs ea rs =>
        cases ru
        obtain ⟨its, qi, hi⟩ := tupAt hok ea
        rw [D.dep] at hd
        rw [D.pure] at pd
        cases re with
        | bl _ => simp [D.pure] at pe
        | emp _ => simp [D.pure] at pe
        | non => cases rz; exact SeqAt.EqAt.tuple_none hi (by lia)
        | int j => obtain ⟨t', rfl⟩ := rz; exact SeqAt.EqAt.tuple_int j t' hi (by lia)
        | str y => obtain ⟨t', rfl⟩ := rz; exact SeqAt.EqAt.tuple_str y t' hi (by lia)
        | lst eb _ => cases rz; obtain ⟨its2, _, ht⟩ := lstAt hok eb; exact SeqAt.EqAt.tuple_list hi ht (by lia)
        | @tup b ws ys eb rs2 =>
          cases rz
          rw [D.pure] at pe
          by_cases hab : a = b
          · subst hab
            rw [ea] at eb; cases eb
            rw [rs.inj rs2, D.eqv_refl]
            exact SeqAt.EqAt.same _
          · obtain ⟨its2, qj, hj⟩ := tupAt hok eb
            refine SeqAt.EqAt.of_refs hab ?_
            have q := SeqAt.RcAt.tuples (A := A) hi hj (by lia) (e := ansAt xs ys) (items_ans rs rs2 qi qj (ihn (by lia) pd pe))
            have l1 := qi.length
            have l2 := qj.length
            rw [List.size_toArray, List.size_toArray, ← l1, ← l2, rs.length, rs2.length, range_min_eqvs] at q
            rw [D.eqv]; exact q
      | @lst a vs xs ea rs =>
        cases ru
        obtain ⟨its, qi, hi⟩ := lstAt hok ea
        rw [D.dep] at hd
        rw [D.pure] at pd
        cases re with
        | bl _ => simp [D.pure] at pe
        | emp _ => simp [D.pure] at pe
        | non => cases rz; exact SeqAt.EqAt.list_none hi (by lia)
        | int j => obtain ⟨t', rfl⟩ := rz; exact SeqAt.EqAt.list_int j t' hi (by lia)
        | str y => obtain ⟨t', rfl⟩ := rz; exact SeqAt.EqAt.list_str y t' hi (by lia)
        | tup eb _ => cases rz; obtain ⟨its2, _, ht⟩ := tupAt hok eb; exact SeqAt.EqAt.list_tuple hi ht (by lia)
        | @lst b ws ys eb rs2 =>
          cases rz
          rw [D.pure] at pe
          by_cases hab : a = b
          · subst hab
            rw [ea] at eb; cases eb
            rw [rs.inj rs2, D.eqv_refl]
            exact SeqAt.EqAt.same _
          · obtain ⟨its2, qj, hj⟩ := lstAt hok eb
            refine SeqAt.EqAt.of_refs hab ?_
            have l1 := qi.length
            have l2 := qj.length
            have l3 := rs.length
            have l4 := rs2.length
            by_cases hl : xs.length = ys.length
            · have q := SeqAt.RcAt.lists (A := A) hi hj (by rw [List.size_toArray, List.size_toArray]; lia) (by lia) (e := ansAt xs ys) (items_ans rs rs2 qi qj (ihn (by lia) pd pe))
              have e1 : its.toArray.size = xs.length := by rw [List.size_toArray]; lia
              rw [e1, range_all_eqvs (ansAt xs ys) xs ys hl fun j x y e1 e2 => by unfold ansAt; rw [e1, e2]] at q
              rw [D.eqv]; exact q
            · rw [D.eqv, eqvs_len xs ys hl]
              exact SeqAt.RcAt.lists_lengths hi hj (by rw [List.size_toArray, List.size_toArray]; simp; lia) (by lia)
end
section
variable {X : Cx} {pins : List (Addr × Obj)} {σ : St} {H : Hp} {s : Shared}
theorem rcAt_rep {P : Program} {w : World} (hok : HOk P w H s.heap) (n : Nat) (A : Around) {v w : V} {d e : D} {u z : Value} (hd : d.dep ≤ n) (rd : Rep H v d) (re : Rep H w e) (ru : RelV v u) (rz : RelV w z) (pd : d.pure = true) (pe : e.pure = true) (hu : A.units + n < cLine) :
    SeqAt.RcAt A s u z (d.eqv e) ∧ SeqAt.RcNeAt A s u z (!(d.eqv e)) := by
  have ihn : ∀ {xs ys : List D}, deps xs + 1 ≤ n → pures xs = true → pures ys = true → ∀ (j : Nat) x y v w u z, xs[j]? = some x → ys[j]? = some y → Rep H v x → Rep H w y → RelV v u → RelV w z → SeqAt.EqAt A.in1 s u z (x.eqv y) :=
    fun {xs ys} hx px py j x y v w u z e1 e2 r1 r2 q1 q2 => eqAt_n hok (n - 1) A.in1 (Nat.le_trans (dep_get e1) (by lia)) r1 r2 q1 q2 (pure_get px e1) (pure_get py e2) (by rw [in1_units]; lia)
  cases rd with
  | bl _ => simp [D.pure] at pd
  | emp _ => simp [D.pure] at pd
  | non =>
    cases ru
    cases re with
    | bl _ => simp [D.pure] at pe
    | emp _ => simp [D.pure] at pe
    | non => cases rz; exact ⟨SeqAt.RcAt.none_none, SeqAt.RcNeAt.none_none⟩
    | int j => obtain ⟨t, rfl⟩ := rz; exact ⟨SeqAt.RcAt.none_int j t, SeqAt.RcNeAt.none_int j t⟩
    | str y => obtain ⟨t, rfl⟩ := rz; exact ⟨SeqAt.RcAt.none_str y t, SeqAt.RcNeAt.none_str y t⟩
    | tup ea _ => cases rz; obtain ⟨its, _, ht⟩ := tupAt hok ea; exact ⟨SeqAt.RcAt.none_tuple ht (by lia), SeqAt.RcNeAt.none_tuple ht (by lia)⟩
    | lst ea _ => cases rz; obtain ⟨its, _, ht⟩ := lstAt hok ea; exact ⟨SeqAt.RcAt.none_list ht (by lia), SeqAt.RcNeAt.none_list ht (by lia)⟩
  | int i =>
    obtain ⟨t, rfl⟩ := ru
    cases re with
    | bl _ => simp [D.pure] at pe
    | emp _ => simp [D.pure] at pe
    | non => cases rz; exact ⟨SeqAt.RcAt.int_none i t, SeqAt.RcNeAt.int_none i t⟩
    | int j => obtain ⟨t', rfl⟩ := rz; exact ⟨SeqAt.RcAt.int_int i t j t', SeqAt.RcNeAt.int_int i t j t'⟩
    | str y => obtain ⟨t', rfl⟩ := rz; exact ⟨SeqAt.RcAt.int_str i t y t', SeqAt.RcNeAt.int_str i t y t'⟩
    | tup ea _ => cases rz; obtain ⟨its, _, ht⟩ := tupAt hok ea; exact ⟨SeqAt.RcAt.int_tuple i t ht (by lia), SeqAt.RcNeAt.int_tuple i t ht (by lia)⟩
    | lst ea _ => cases rz; obtain ⟨its, _, ht⟩ := lstAt hok ea; exact ⟨SeqAt.RcAt.int_list i t ht (by lia), SeqAt.RcNeAt.int_list i t ht (by lia)⟩
  | str x =>
    obtain ⟨t, rfl⟩ := ru
    cases re with
    | bl _ => simp [D.pure] at pe
    | emp _ => simp [D.pure] at pe
    | non => cases rz; exact ⟨SeqAt.RcAt.str_none x t, SeqAt.RcNeAt.str_none x t⟩
    | int j => obtain ⟨t', rfl⟩ := rz; exact ⟨SeqAt.RcAt.str_int x t j t', SeqAt.RcNeAt.str_int x t j t'⟩
    | str y => obtain ⟨t', rfl⟩ := rz; exact ⟨SeqAt.RcAt.str_str x t y t', SeqAt.RcNeAt.str_str x t y t'⟩
    | tup ea _ => cases rz; obtain ⟨its, _, ht⟩ := tupAt hok ea; exact ⟨SeqAt.RcAt.str_tuple x t ht (by lia), SeqAt.RcNeAt.str_tuple x t ht (by lia)⟩
    | lst ea _ => cases rz; obtain ⟨its, _, ht⟩ := lstAt hok ea; exact ⟨SeqAt.RcAt.str_list x t ht (by lia), SeqAt.RcNeAt.str_list x t ht (by lia)⟩
  | @tup a vs xs ea rs =>
    cases ru
    obtain ⟨its, qi, hi⟩ := tupAt hok ea
    rw [D.dep] at hd
    rw [D.pure] at pd
    cases re with
    | bl _ => simp [D.pure] at pe
    | emp _ => simp [D.pure] at pe
    | non => cases rz; exact ⟨SeqAt.RcAt.tuple_none hi (by lia), SeqAt.RcNeAt.tuple_none hi (by lia)⟩
    | int j => obtain ⟨t', rfl⟩ := rz; exact ⟨SeqAt.RcAt.tuple_int j t' hi (by lia), SeqAt.RcNeAt.tuple_int j t' hi (by lia)⟩
    | str y => obtain ⟨t', rfl⟩ := rz; exact ⟨SeqAt.RcAt.tuple_str y t' hi (by lia), SeqAt.RcNeAt.tuple_str y t' hi (by lia)⟩
    | lst eb _ => cases rz; obtain ⟨its2, _, ht⟩ := lstAt hok eb; exact ⟨SeqAt.RcAt.tuple_list hi ht (by lia), SeqAt.RcNeAt.tuple_list hi ht (by lia)⟩
    | @tup b ws ys eb rs2 =>
      cases rz
      rw [D.pure] at pe
      obtain ⟨its2, qj, hj⟩ := tupAt hok eb
      have l1 := qi.length
      have l2 := qj.length
      have q := SeqAt.RcAt.tuples (A := A) hi hj (by lia) (e := ansAt xs ys) (items_ans rs rs2 qi qj (ihn hd pd pe))
      have q' := SeqAt.RcNeAt.tuples (A := A) hi hj (by lia) (e := ansAt xs ys) (items_ans rs rs2 qi qj (ihn hd pd pe))
      rw [List.size_toArray, List.size_toArray, ← l1, ← l2, rs.length, rs2.length, range_min_eqvs] at q q'
      rw [D.eqv]; exact ⟨q, q'⟩
  | @lst a vs xs ea rs =>
    cases ru
    obtain ⟨its, qi, hi⟩ := lstAt hok ea
    rw [D.dep] at hd
    rw [D.pure] at pd
    cases re with
    | bl _ => simp [D.pure] at pe
    | emp _ => simp [D.pure] at pe
    | non => cases rz; exact ⟨SeqAt.RcAt.list_none hi (by lia), SeqAt.RcNeAt.list_none hi (by lia)⟩
    | int j => obtain ⟨t', rfl⟩ := rz; exact ⟨SeqAt.RcAt.list_int j t' hi (by lia), SeqAt.RcNeAt.list_int j t' hi (by lia)⟩
    | str y => obtain ⟨t', rfl⟩ := rz; exact ⟨SeqAt.RcAt.list_str y t' hi (by lia), SeqAt.RcNeAt.list_str y t' hi (by lia)⟩
    | tup eb _ => cases rz; obtain ⟨its2, _, ht⟩ := tupAt hok eb; exact ⟨SeqAt.RcAt.list_tuple hi ht (by lia), SeqAt.RcNeAt.list_tuple hi ht (by lia)⟩
    | @lst b ws ys eb rs2 =>
      cases rz
      rw [D.pure] at pe
      obtain ⟨its2, qj, hj⟩ := lstAt hok eb
      have l1 := qi.length
      have l2 := qj.length
      have l3 := rs.length
      have l4 := rs2.length
      by_cases hl : xs.length = ys.length
      · have sz : its.toArray.size = its2.toArray.size := by rw [List.size_toArray, List.size_toArray]; lia
        have q := SeqAt.RcAt.lists (A := A) hi hj sz (by lia) (e := ansAt xs ys) (items_ans rs rs2 qi qj (ihn hd pd pe))
        have q' := SeqAt.RcNeAt.lists (A := A) hi hj sz (by lia) (e := ansAt xs ys) (items_ans rs rs2 qi qj (ihn hd pd pe))
        have e1 : its.toArray.size = xs.length := by rw [List.size_toArray]; lia
        rw [e1, range_all_eqvs (ansAt xs ys) xs ys hl fun j x y e1 e2 => by unfold ansAt; rw [e1, e2]] at q q'
        rw [D.eqv]; exact ⟨q, q'⟩
      · rw [D.eqv, eqvs_len xs ys hl]
        have sz : (its.toArray.size != its2.toArray.size) = true := by rw [List.size_toArray, List.size_toArray]; simp; lia
        exact ⟨SeqAt.RcAt.lists_lengths hi hj sz (by lia), SeqAt.RcNeAt.lists_lengths hi hj sz (by lia)⟩
noncomputable def rEqD (n : Nat) : R2 := fun x y H Q => ∃ d e, Rep H x d ∧ Rep H y e ∧ d.pure = true ∧ e.pure = true ∧ d.dep ≤ n ∧ Q (.bl (d.eqv e)) H
noncomputable def rNeD (n : Nat) : R2 := fun x y H Q => ∃ d e, Rep H x d ∧ Rep H y e ∧ d.pure = true ∧ e.pure = true ∧ d.dep ≤ n ∧ Q (.bl (!(d.eqv e))) H
theorem op_eqD {n : Nat} (hu : X.A.units + n < cLine) : OpR X (compareOp .Eq) (rEqD n) := by
  intro pins s σ H x y v u Q I rx ry h
  obtain ⟨d, e, rd, re, pd, pe, hd, q⟩ := h
  exact (rcAt_rep I.hok n X.A hd rd re rx ry pd pe hu).1 X.prog X.w X.xe _ ⟨.bl _, H, I, rfl, q⟩
theorem op_neD {n : Nat} (hu : X.A.units + n < cLine) : OpR X (compareOp .NotEq) (rNeD n) := by
  intro pins s σ H x y v u Q I rx ry h
  obtain ⟨d, e, rd, re, pd, pe, hd, q⟩ := h
  exact (rcAt_rep I.hok n X.A hd rd re rx ry pd pe hu).2 X.prog X.w X.xe _ ⟨.bl _, H, I, rfl, q⟩
end
end L3
namespace L3
open PySem PySem.Spec PyProof.Rows L2
section
variable {X : Cx}
noncomputable def rAddG : R2 := fun x y H Q => match x, y with
  | .int i, .int j => Q (.int (i + j)) H
  | .str a, .str b => a.length + b.length ≤ sizeLine ∧ Q (.str (a ++ b)) H
  | .ref a, .ref b => ∃ xs zs, H a = some (.lst xs) ∧ H b = some (.lst zs) ∧ xs.length + zs.length ≤ sizeLine ∧ New H (.lst (xs ++ zs)) Q
  | _, _ => False
theorem op_addG : OpR X (binaryOp .Add) rAddG := by
  intro pins s σ H x y v u Q I rx ry q
  cases x <;> cases y <;> first
    | exact False.elim q
    | exact op_add pins s σ H _ _ v u Q I rx ry ⟨_, _, rfl, rfl, q⟩
    | exact op_add_str pins s σ H _ _ v u Q I rx ry ⟨_, _, rfl, rfl, q.1, q.2⟩
    | (obtain ⟨xs, zs, h1, h2, h3, h4⟩ := q; exact op_cat pins s σ H _ _ v u Q I rx ry ⟨_, _, xs, zs, rfl, rfl, h1, h2, h3, fun p n => h4.at n⟩)
noncomputable def rEqG (n : Nat) : R2 := fun x y H Q => match x, y with
  | .int i, .int j => Q (.bl (decide (i = j))) H
  | .bl a, .bl b => Q (.bl (decide (a = b))) H
  | .str a, .str b => Q (.bl (decide (a = b))) H
  | x, y => rEqD n x y H Q
noncomputable def rNeG (n : Nat) : R2 := fun x y H Q => match x, y with
  | .int i, .int j => Q (.bl (!decide (i = j))) H
  | .bl a, .bl b => Q (.bl (!decide (a = b))) H
  | .str a, .str b => Q (.bl (!decide (a = b))) H
  | x, y => rNeD n x y H Q
theorem decI {i j : Int} : decide (V.int i = V.int j) = decide (i = j) := by simp
theorem decB {i j : Bool} : decide (V.bl i = V.bl j) = decide (i = j) := by simp
theorem decS {i j : Str} : decide (V.str i = V.str j) = decide (i = j) := by simp
theorem op_eqG {n : Nat} (hu : X.A.units + n < cLine) : OpR X (compareOp .Eq) (rEqG n) := by
  intro pins s σ H x y v u Q I rx ry q
  cases x <;> cases y <;> first
    | exact op_eqD hu pins s σ H _ _ v u Q I rx ry q
    | (refine op_eq pins s σ H _ _ v u Q I rx ry ⟨rfl, ?_⟩; rw [decI]; exact q)
    | (refine op_eq pins s σ H _ _ v u Q I rx ry ⟨rfl, ?_⟩; rw [decB]; exact q)
    | (refine op_eq pins s σ H _ _ v u Q I rx ry ⟨rfl, ?_⟩; rw [decS]; exact q)
theorem op_neG {n : Nat} (hu : X.A.units + n < cLine) : OpR X (compareOp .NotEq) (rNeG n) := by
  intro pins s σ H x y v u Q I rx ry q
  cases x <;> cases y <;> first
    | exact op_neD hu pins s σ H _ _ v u Q I rx ry q
    | (refine op_ne pins s σ H _ _ v u Q I rx ry ⟨rfl, ?_⟩; rw [decI]; exact q)
    | (refine op_ne pins s σ H _ _ v u Q I rx ry ⟨rfl, ?_⟩; rw [decB]; exact q)
    | (refine op_ne pins s σ H _ _ v u Q I rx ry ⟨rfl, ?_⟩; rw [decS]; exact q)
noncomputable def rIxG (K : PySem.W.Frag) : R2 := fun x y H Q => ∃ p xs i v, x = .ref p ∧ y = .int i ∧ (SqL K H p xs ∨ SqT K H p xs) ∧ atI xs i = some v ∧ Q v H
theorem ix_G : IxR X (rIxG X.K) := by
  intro value slice pins s σ H x y v u Q I rx ry q hs
  obtain ⟨p, xs, i, w, h1, h2, h3 | h3, h4, h5⟩ := q
  · exact ix_list value slice pins s σ H x y v u Q I rx ry ⟨p, xs, i, w, h1, h2, h3, h4, h5⟩ hs
  · exact ix_tup value slice pins s σ H x y v u Q I rx ry ⟨p, xs, i, w, h1, h2, h3, h4, h5⟩ hs
noncomputable def iSeq (K : PySem.W.Frag) (tl : TE) : TI := fun σ H R => tl σ H fun x H1 => ∃ a, x = .ref a ∧ (((∃ xs, SqL K H1 a xs) ∧ R (Itl K a) H1) ∨ ((∃ xs, SqT K H1 a xs) ∧ R (Itt K a) H1))
noncomputable def tAndG (K : PySem.W.Frag) (ta tb : TE) : TE := fun σ H Q => ta σ H fun x H1 => ∃ k, TruV K x H1 k ∧ if k = true then tb σ H1 Q else Q x H1
variable {a b : Expr} {rest : List Expr} {ta tb : TE} {pos : Pos}
theorem pe_andG (ha : PE X a ta) (hb : PE X (.BoolOp .And (b :: rest) pos) tb) : PE X (.BoolOp .And (a :: b :: rest) pos) (tAndG X.K ta tb) := by
  intro pins s σ H Q I h
  refine BoolOp_and (thn (ha pins s σ H _ I h) fun v s1 hh => ?_)
  obtain ⟨x, H1, I1, r1, k, tv, q1⟩ := hh
  refine thn (tru_ok pins s1 σ H1 x v (fun c H2 => H2 = H1 ∧ c = k) I1 r1 ⟨k, tv, rfl, rfl⟩) fun c s2 hh => ?_
  obtain ⟨H2, I2, e1, e2⟩ := hh
  subst e1 e2
  cases c with
  | true => rw [if_pos rfl] at q1; exact hb pins s2 σ H2 Q I2 q1
  | false => rw [if_neg Bool.false_ne_true] at q1; exact ⟨x, H2, I2, r1, q1⟩
end
section
variable {X : Cx} {tg : Expr}
theorem pi_seq {l : Expr} {tl : TE} (hl : PE X l tl) : PI X tg l (iSeq X.K tl) := by
  intro pins s σ H R I h
  refine thn (hl pins s σ H _ I h) fun v s1 hh => ?_
  obtain ⟨x, H1, I1, r1, a, ex, q⟩ := hh
  subst ex
  cases r1
  rcases q with ⟨⟨xs, hx⟩, q⟩ | ⟨⟨xs, hx⟩, q⟩
  · obtain ⟨its, r, p, hz⟩ := I1.list hx
    refine wpAny_pyIter_list p.isList ?_
    refine ⟨s1.heap.objs.size, [s1.heap.objs.size], _, _, H1, rfl, I1.kept (t' := s1.toks) fun b o e => Heap.get?_push_of_some _ e, turn_list a _, ⟨_, Heap.get?_push_size _ rfl, rfl, rfl⟩, fun b hb => ?_, q⟩
    have e : b = s1.heap.objs.size := by simpa using hb
    subst e
    exact I1.fpOk (Nat.le_refl _) I1.fresh
  · obtain ⟨its, r, p, hz⟩ := I1.tuple hx
    refine wpAny_pyIter_tuple (IsTup.isT p) ?_
    refine ⟨s1.heap.objs.size, [s1.heap.objs.size], _, _, H1, rfl, I1.kept (t' := s1.toks) fun b o e => Heap.get?_push_of_some _ e, turn_tuple a _, ⟨_, Heap.get?_push_size _ rfl, rfl, rfl⟩, fun b hb => ?_, q⟩
    have e : b = s1.heap.objs.size := by simpa using hb
    subst e
    exact I1.fpOk (Nat.le_refl _) I1.fresh
noncomputable def Cal (P : Program) (w : World) (K : PySem.W.Frag) (mg : Str → Option Value) (base : Heap) (CX : CXT) (k : Nat) (x : Str) (sp : Sp) : Prop :=
  ∃ f fd ps, FnOk P w K mg base CX k f fd ps sp ∧ mg x = some (.ref f) ∧ PySem.W.keepIn K (.ref f) = true ∧ Binds K fd ps []
noncomputable def tCallF (sp : Sp) (E : XK) (t : TA) : TE := fun σ H Q => t σ H fun vs H1 => sp vs H1 Q E
theorem pe_callF {CX : CXT} {k : Nat} {x : Str} {sp : Sp} {E : XK} {e : Expr} {es : List Expr} {t : TA} {p pos : Pos} (C : Cal X.prog X.w X.K X.mg X.base CX k x sp) (hr : Room k X.A) (hx : Passes CX X E) (hg : Gl X x)
    (ha : PA X (e :: es) t) (hdb : (x == ("__debug__" : Str)) = false := by decide) (he : starEach (e :: es) X.env = (false, eval e X.env) :: starEach es X.env := by rfl) (hpl : (backTo pos (starEach es X.env)).any (·.1) = false := by rfl) :
    PE X (.Call (.Name x p) (e :: es) [] pos) (tCallF sp E t) := by
  obtain ⟨f, fd, ps, F, hm, hk, hb⟩ := C
  have q := pe_call (dvs := []) (ds := []) F hr hg hm hk hb .nil hx ha hdb he hpl (p := p) (pos := pos)
  intro pins s σ H Q I h
  refine q pins s σ H Q I ?_
  show t σ H fun vs H1 => sp (vs ++ []) H1 Q E
  simp only [List.append_nil]
  exact h
theorem Cal.mono {P : Program} {w : World} {K : PySem.W.Frag} {mg : Str → Option Value} {base : Heap} {CX : CXT} {j k : Nat} {x : Str} {sp : Sp} (C : Cal P w K mg base CX j x sp) (h : j ≤ k) : Cal P w K mg base CX k x sp := by
  obtain ⟨f, fd, ps, F, r⟩ := C
  exact ⟨f, fd, ps, F.mono h, r⟩
end
structure Fd (K : PySem.W.Frag) (mg : Str → Option Value) (x : Str) (st : Stmt) (f : Addr) : Prop where
  ex : ∃ fd, Fun K x x st f fd
  at_ : mg x = some (.ref f)
theorem fd_mk {K : PySem.W.Frag} {h : Heap} {mg : Str → Option Value} {x : Str} {st : Stmt} {f : Addr} {oc : Value} {od an : Option Addr} {osl : Array (Option Value)} {kV doc pm cdv ct : Value} (X : K.In h) (G : h.Ns mainGlobals mg)
    (a : PySem.W.nsIn K mainGlobals x = some (some (.ref f))) (l : K.lookup f = some ⟨oc, od, .func (PySem.W.fnOf x x (defArgs st) (defBody st) (defScope st) .none kV doc pm an cdv ct), osl⟩)
    (c : PySem.W.codeIn K cdv x = true) (k : PySem.W.keepIn K (.ref f) = true) : Fd K mg x st f := ⟨⟨_, fun_mk l c k⟩, PySem.W.mg_of X G a⟩
end L3
namespace L3
open PySem PySem.Spec PyProof.Rows L2
theorem hu_n {A : Around} {k : Nat} (hr : Room k A) : A.units + 150 < cLine := by have := hr.un; lia
theorem atI_mem {α : Type} {xs : List α} {i : Int} (h0 : 0 ≤ i) (h1 : i < xs.length) : ∃ v, atI xs i = some v ∧ v ∈ xs := by
  have hlt : i.toNat < xs.length := by lia
  refine ⟨xs[i.toNat], ?_, List.getElem_mem hlt⟩
  have e : ((i.toNat : Nat) : Int) = i := by lia
  have := atI_nat (xs := xs) (j := i.toNat) (v := xs[i.toNat]) (List.getElem?_eq_getElem hlt)
  rw [e] at this
  exact this
theorem atI_ints {ns : List Int} {i : Int} (h0 : 0 ≤ i) (h1 : i < ns.length) : ∃ n, atI (ns.map V.int) i = some (.int n) ∧ n ∈ ns := by
  obtain ⟨v, e, m⟩ := atI_mem (xs := ns.map V.int) h0 (by rw [List.length_map]; exact h1)
  obtain ⟨n, hn, rfl⟩ := List.mem_map.mp m
  exact ⟨n, e, hn⟩
theorem sizeBig {n : Nat} (h : n ≤ 100000) : n < sizeLine := Nat.lt_of_le_of_lt h (by decide)
theorem sizeBig' {n : Nat} (h : n ≤ 100000) : n ≤ sizeLine := Nat.le_of_lt (sizeBig h)
section
variable {g : TG} {tt : TT} {te : TE} {acc : Addr} {σ0 : St} {H0 : Hp} {Q : Hp → Prop}
@[irreducible] noncomputable def CPost (Pv : Nat → List V → St → Hp → Prop) (acc : Addr) (n i : Nat) (σ2 : St) (y : V) (H4 : Hp) : Prop :=
  ∃ ys, H4 acc = some (.lst ys) ∧ ys.length < sizeLine ∧ ∃ m', m' < n - i ∧ m' = n - (i + 1) ∧ i + 1 ≤ n ∧ ∃ zs, Pv (i + 1) zs σ2 (upd H4 acc (.lst (ys ++ [y])))
@[irreducible] noncomputable def CSkip (Pv : Nat → List V → St → Hp → Prop) (n i : Nat) (σ2 : St) (H3 : Hp) : Prop := ∃ m', m' < n - i ∧ m' = n - (i + 1) ∧ i + 1 ≤ n ∧ ∃ zs, Pv (i + 1) zs σ2 H3
theorem cpost {Pv : Nat → List V → St → Hp → Prop} {n i : Nat} {σ2 : St} {y : V} {H4 : Hp} {ys : List V} (h1 : H4 acc = some (.lst ys)) (h2 : ys.length < sizeLine) (h3 : i < n) (h4 : Pv (i + 1) (ys ++ [y]) σ2 (upd H4 acc (.lst (ys ++ [y])))) : CPost Pv acc n i σ2 y H4 :=
  by unfold CPost; exact ⟨ys, h1, h2, n - (i + 1), by lia, rfl, h3, _, h4⟩
theorem cskip {Pv : Nat → List V → St → Hp → Prop} {n i : Nat} {σ2 : St} {H4 : Hp} {ys : List V} (h3 : i < n) (h4 : Pv (i + 1) ys σ2 H4) : CSkip Pv n i σ2 H4 := by unfold CSkip; exact ⟨n - (i + 1), by lia, rfl, h3, _, h4⟩
theorem comp_list {K : PySem.W.Frag} {a : Addr} {xs : List V} (Pv : Nat → List V → St → Hp → Prop) (h0 : Pv 0 [] σ0 H0) (hl : ∀ i ys σ H, Pv i ys σ H → SqL K H a xs)
    (hs : ∀ i ys x σ H, xs[i]? = some x → i < xs.length → Pv i ys σ H → g x σ H fun σ2 H2 => tt σ2 H2 fun b H3 => if b = true then te σ2 H3 (CPost Pv acc xs.length i σ2) else CSkip Pv xs.length i σ2 H3)
    (hd : ∀ ys σ H, Pv xs.length ys σ H → Q H) : CompW (Itl K a) g tt te acc σ0 H0 Q := by
  refine ⟨fun i m σ H => m = xs.length - i ∧ i ≤ xs.length ∧ ∃ ys, Pv i ys σ H, ⟨xs.length, by simp, Nat.zero_le _, [], h0⟩, ?_⟩
  rintro i m σ H ⟨rfl, hi, ys, p⟩
  have q := hl i ys σ H p
  by_cases hlt : i < xs.length
  · refine .inr ⟨⟨xs, xs[i], q, by simp [hlt]⟩, fun x H1 y => ?_⟩
    obtain ⟨e, y⟩ := y
    subst e
    have z := hs i ys x σ _ (y xs q) hlt p
    unfold CPost CSkip at z
    exact z
  · have e : i = xs.length := by lia
    subst e
    exact .inl ⟨⟨xs, q, Nat.le_refl _⟩, hd ys σ H p⟩
theorem comp_tup {K : PySem.W.Frag} {a : Addr} {xs : List V} (Pv : Nat → List V → St → Hp → Prop) (h0 : Pv 0 [] σ0 H0) (hl : ∀ i ys σ H, Pv i ys σ H → SqT K H a xs)
    (hs : ∀ i ys x σ H, xs[i]? = some x → i < xs.length → Pv i ys σ H → g x σ H fun σ2 H2 => tt σ2 H2 fun b H3 => if b = true then te σ2 H3 (CPost Pv acc xs.length i σ2) else CSkip Pv xs.length i σ2 H3)
    (hd : ∀ ys σ H, Pv xs.length ys σ H → Q H) : CompW (Itt K a) g tt te acc σ0 H0 Q := by
  refine ⟨fun i m σ H => m = xs.length - i ∧ i ≤ xs.length ∧ ∃ ys, Pv i ys σ H, ⟨xs.length, by simp, Nat.zero_le _, [], h0⟩, ?_⟩
  rintro i m σ H ⟨rfl, hi, ys, p⟩
  have q := hl i ys σ H p
  by_cases hlt : i < xs.length
  · refine .inr ⟨⟨xs, xs[i], q, by simp [hlt]⟩, fun x H1 y => ?_⟩
    obtain ⟨e, y⟩ := y
    subst e
    have z := hs i ys x σ _ (y xs q) hlt p
    unfold CPost CSkip at z
    exact z
  · have e : i = xs.length := by lia
    subst e
    exact .inl ⟨⟨xs, q, Nat.le_refl _⟩, hd ys σ H p⟩
end
end L3
namespace L3
open PySem PySem.Spec PyProof.Rows L2
end L3
namespace L3
open PySem PySem.Spec PyProof.Rows L2
theorem cmL {i j : Int} (h : -(2 ^ 64) < i ∧ i < 2 ^ 64) : CMul i j := .inl h
theorem cmR {i j : Int} (h : -(2 ^ 64) < j ∧ j < 2 ^ 64) : CMul i j := .inr h
theorem rm_trans {p : Addr} {H H1 H2 : Hp} (s1 : Same (rm p H) H1) (s2 : Same (rm p H1) H2) : Same (rm p H) H2 := (rm_mono s1).trans s2
theorem rm_of' {p : Addr} {H H' : Hp} (s : Same H H') : Same (rm p H) (rm p H') := rm_mono (rm_same.trans s)
theorem rm_fresh {p l : Addr} {H : Hp} (h : H l = none) : rm p H l = none := by
  unfold rm; split <;> first | rfl | exact h
theorem rm_look {p b : Addr} {H H' : Hp} {o : HO} (s : Same (rm p H) H') (h : H b = some o) (hb : b ≠ p) : H' b = some o := s b o (by rw [rm_ne hb]; exact h)
theorem Fd.none {P : Program} {w : World} {K : PySem.W.Frag} {mg : Str → Option Value} {base : Heap} {x : Str} {st : Stmt} {f : Addr} {ps : List Str} {sp : Sp} (F : Fd K mg x st f)
    (hb : ∀ (kV doc pm : Value) (an : Option Addr) (cdv ct : Value) (us : List Value), us.length = ps.length → bindArgs (PySem.W.fnOf x x (defArgs st) (defBody st) (defScope st) .none kV doc pm an cdv ct) ⟨us, []⟩ = pure (ps.zip us))
    (h : ∀ vs H Q E, ¬ sp vs H Q E) : Cal P w K mg base CX0 0 x sp := by
  obtain ⟨⟨fd, F1⟩, F2⟩ := F
  exact ⟨f, fd, ps, ⟨fun vs H Q E q => (h vs H Q E q).elim, fun A outer s H args us vs Q E _ _ _ _ q => (h vs H Q E q).elim⟩, F2, F1.kp, F1.binds hb⟩
end L3
namespace L3
open PySem
theorem bt_len : bootBuiltins "len" = some (.builtin "len") := by decide +kernel
theorem bt_max : bootBuiltins "max" = some (.builtin "max") := by decide +kernel
theorem bt_sum : bootBuiltins "sum" = some (.builtin "sum") := by decide +kernel
theorem bt_sorted : bootBuiltins "sorted" = some (.builtin "sorted") := by decide +kernel
theorem bt_list : bootBuiltins "list" = some (.type "list") := by decide +kernel
end L3
namespace L3
open PySem PySem.Spec PyProof.Rows L2
section
variable {X : Cx} {a b e o l : Expr} {es rest : List Expr} {ta tb te to tl : TE} {t : TA} {pos : Pos}
theorem kIx (K : PySem.W.Frag) (hK : X.K = K := by rfl) : IxR X (rIxG K) := by subst hK; exact ix_G
theorem kAnd (K : PySem.W.Frag) (ha : PE X a ta) (hb : PE X (.BoolOp .And (b :: rest) pos) tb) (hK : X.K = K := by rfl) : PE X (.BoolOp .And (a :: b :: rest) pos) (tAndG K ta tb) := by subst hK; exact pe_andG ha hb
noncomputable def rLen (K : PySem.W.Frag) : List V → Hp → VK → Prop := fun xs H Q => ∃ p ys, xs = [.ref p] ∧ (SqL K H p ys ∨ SqT K H p ys) ∧ Q (.int ys.length) H
theorem kLen (K : PySem.W.Frag) (hK : X.K = K := by rfl) : CallR X (.builtin "len") (rLen K) := by subst hK; exact call_len_seq
noncomputable def tTru (K : PySem.W.Frag) (ta : TE) : TT := fun σ H Q => ta σ H fun x H' => ∃ k, TruV K x H' k ∧ Q k H'
theorem kTru (K : PySem.W.Frag) (ha : PE X a ta) (he : ∀ whole, isTrue a X.env whole = (do let v ← whole; standAt a.pos; holding [v] (truthy v))) (hK : X.K = K := by rfl) : PT X a (tTru K ta) := by subst hK; exact pt_truth ha he
theorem kListC (K : PySem.W.Frag) (hK : X.K = K := by rfl) : CallR X (.type "list") (rListN K) := by subst hK; exact call_listN
theorem kSeq {tg : Expr} (K : PySem.W.Frag) (hl : PE X l tl) (hK : X.K = K := by rfl) : PI X tg l (iSeq K tl) := by subst hK; exact pi_seq hl
noncomputable def notStar : Expr → Bool
  | .Starred _ _ => false
  | _ => true
theorem star_cons {e : Expr} {es : List Expr} {env : Env} (h : notStar e = true) : starEach (e :: es) env = (false, eval e env) :: starEach es env := by
  cases e <;> first
    | rfl
    | cases h
theorem star_nil {env : Env} : starEach [] env = [] := rfl
theorem star_any {pos : Pos} {env : Env} : ∀ es : List Expr, es.all notStar = true → (backTo pos (starEach es env)).any (·.1) = false
  | [], _ => by rw [star_nil]; rfl
  | e :: r, h => by
    rw [List.all_cons, Bool.and_eq_true] at h
    rw [star_cons h.1]
    have := star_any (pos := pos) (env := env) r h.2
    unfold backTo at this ⊢
    rw [List.map_cons, List.any_cons, this]; rfl
theorem star_all {pos : Pos} {env : Env} : ∀ es : List Expr, es.all notStar = true → (backTo pos (starEach es env)).all (fun x => !x.1) = true
  | [], _ => by rw [star_nil]; rfl
  | e :: r, h => by
    rw [List.all_cons, Bool.and_eq_true] at h
    rw [star_cons h.1]
    have := star_all (pos := pos) (env := env) r h.2
    unfold backTo at this ⊢
    rw [List.map_cons, List.all_cons, this]; rfl
theorem all_head {e : Expr} {es : List Expr} (h : (e :: es).all notStar = true) : notStar e = true ∧ es.all notStar = true := by rw [List.all_cons, Bool.and_eq_true] at h; exact h
theorem paC (ha : PE X e te) (hr : PA X es t) (h : notStar e = true := by rfl) : PA X (e :: es) (tCons te t) := pa_cons ha hr (star_cons h)
theorem cF {CX : CXT} {k : Nat} {x : Str} {sp : Sp} {E : XK} {p pos : Pos} (C : Cal X.prog X.w X.K X.mg X.base CX k x sp) (hr : Room k X.A) (hx : Passes CX X E) (hg : Gl X x)
    (ha : PA X (e :: es) t) (hdb : (x == ("__debug__" : Str)) = false := by decide) (h : (e :: es).all notStar = true := by rfl) : PE X (.Call (.Name x p) (e :: es) [] pos) (tCallF sp E t) :=
  pe_callF C hr hx hg ha hdb (star_cons (all_head h).1) (star_any es (all_head h).2)
theorem cB {id : String} {r : List V → Hp → VK → Prop} {x : Str} {p pos : Pos} (hc : CallR X (.builtin id) r) (hg : Gl X x) (hm : X.mg x = none) (hv : bootBuiltins x = some (.builtin id)) (ha : PA X (e :: es) t) (hn : x ≠ "__name__" := by decide) (hdb : (x == ("__debug__" : Str)) = false := by decide)
    (h : (e :: es).all notStar = true := by rfl) : PE X (.Call (.Name x p) (e :: es) [] pos) (tCB r t) := pe_callB hc hg hm hv ha hn hdb (star_cons (all_head h).1) (star_any es (all_head h).2)
theorem cTy {T : String} {r : List V → Hp → VK → Prop} {x : Str} {p pos : Pos} (hc : CallR X (.type T) r) (hg : Gl X x) (hm : X.mg x = none) (hv : bootBuiltins x = some (.type T)) (ha : PA X (e :: es) t) (hn : x ≠ "__name__" := by decide) (hdb : (x == ("__debug__" : Str)) = false := by decide)
    (h : (e :: es).all notStar = true := by rfl) : PE X (.Call (.Name x p) (e :: es) [] pos) (tCB r t) := pe_callTy hc hg hm hv ha hn hdb (star_cons (all_head h).1) (star_any es (all_head h).2)
theorem iRange1 {tg : Expr} {ta : TA} {p pos : Pos} (hg : Gl X "range") (hm : X.mg "range" = none) (ha : PA X [a] ta) (h : notStar a = true := by rfl) : PI X tg (.Call (.Name "range" p) [a] [] pos) (iRng1 ta) := pi_range1 hg hm ha (by rw [star_cons h, star_nil])
theorem kBm {name : Str} {apos cpos : Pos} {T id : String} {r : V → List V → Hp → VK → Prop} (K : PySem.W.Frag) (pa : PlainAttrs T) (slot : Slot T name id) (hty : typeOf (.builtin id) = pure (.type "method_descriptor")) (hm : MtR X id r) (ho : PE X o to) (ha : PA X (e :: es) t)
    (hbase : attributeBase o name X.env (eval o X.env) = eval o X.env := by rfl) (h : (e :: es).all notStar = true := by rfl) (hl : decide ((e :: es).length < 30) = true := by rfl)
    (hline : (apos.endLine == cpos.line) = true := by rfl) (hK : X.K = K := by rfl) :
    PE X (.Call (.Attribute o name apos) (e :: es) [] cpos) (tBM K T r to t) := by
  subst hK
  refine pe_bm pa slot hty hm ho ha hbase ?_ hline (star_cons (all_head h).1) (star_any es (all_head h).2)
  rw [star_all (e :: es) h, Bool.true_and, Bool.and_eq_true]
  exact ⟨rfl, hl⟩
theorem kIn (K : PySem.W.Frag) (hK : X.K = K := by rfl) : OpR X (compareOp .In) (rIn K false) := by subst hK; exact op_in_seq
end
end L3
namespace L3
open PySem PySem.Spec PyProof.Rows L2
@[irreducible] noncomputable def QE (X : Cx) (e : Expr) (t : TE) : Prop := PE X e t
@[irreducible] noncomputable def QT (X : Cx) (e : Expr) (t : TT) : Prop := PT X e t
@[irreducible] noncomputable def QW (X : Cx) (e : Expr) (t : TT) : Prop := PW X e t
@[irreducible] noncomputable def QA (X : Cx) (es : List Expr) (t : TA) : Prop := PA X es t
@[irreducible] noncomputable def QS (X : Cx) (s : Stmt) (t : TS) : Prop := PS X s t
@[irreducible] noncomputable def QSs (X : Cx) (s : List Stmt) (t : TS) : Prop := PSs X s t
@[irreducible] noncomputable def QG (X : Cx) (e : Expr) (t : TG) : Prop := PG X e t
@[irreducible] noncomputable def QGs (X : Cx) (es : List Expr) (t : TGs) : Prop := PGs X es t
@[irreducible] noncomputable def QI (X : Cx) (tg e : Expr) (t : TI) : Prop := PI X tg e t
@[irreducible] noncomputable def QO (X : Cx) (e : Option Expr) (t : TO) : Prop := PO X e t
@[irreducible] noncomputable def QTs (X : Cx) (es : List Expr) (t : TT) : Prop := PTs X es t
@[irreducible] noncomputable def ROp (X : Cx) (f : Value → Value → Sem Value) (r : R2) : Prop := OpR X f r
@[irreducible] noncomputable def RUn (X : Cx) (f : Value → Sem Value) (r : V → Hp → VK → Prop) : Prop := UnR X f r
@[irreducible] noncomputable def RCall (X : Cx) (f : Value) (r : List V → Hp → VK → Prop) : Prop := CallR X f r
@[irreducible] noncomputable def RIx (X : Cx) (r : R2) : Prop := IxR X r
@[irreducible] noncomputable def RMt (X : Cx) (id : String) (r : V → List V → Hp → VK → Prop) : Prop := MtR X id r
@[irreducible] noncomputable def RSl (X : Cx) (r : V → Option Int → Option Int → Hp → VK → Prop) : Prop := SlR X r
@[irreducible] noncomputable def RSet (X : Cx) (r : TSet) : Prop := PSet X r
@[irreducible] noncomputable def RIp (X : Cx) (op : Operator) (r : TIp) : Prop := PIp X op r
section
variable {X : Cx}
theorem QE.un {e : Expr} {t : TE} (h : QE X e t) : PE X e t := by unfold QE at h; exact h
theorem QE.mk {e : Expr} {t : TE} (h : PE X e t) : QE X e t := by unfold QE; exact h
theorem QT.un {e : Expr} {t : TT} (h : QT X e t) : PT X e t := by unfold QT at h; exact h
theorem QT.mk {e : Expr} {t : TT} (h : PT X e t) : QT X e t := by unfold QT; exact h
theorem QW.un {e : Expr} {t : TT} (h : QW X e t) : PW X e t := by unfold QW at h; exact h
theorem QW.mk {e : Expr} {t : TT} (h : PW X e t) : QW X e t := by unfold QW; exact h
theorem QA.un {es : List Expr} {t : TA} (h : QA X es t) : PA X es t := by unfold QA at h; exact h
theorem QA.mk {es : List Expr} {t : TA} (h : PA X es t) : QA X es t := by unfold QA; exact h
theorem QS.un {s : Stmt} {t : TS} (h : QS X s t) : PS X s t := by unfold QS at h; exact h
theorem QS.mk {s : Stmt} {t : TS} (h : PS X s t) : QS X s t := by unfold QS; exact h
theorem QSs.un {s : List Stmt} {t : TS} (h : QSs X s t) : PSs X s t := by unfold QSs at h; exact h
theorem QSs.mk {s : List Stmt} {t : TS} (h : PSs X s t) : QSs X s t := by unfold QSs; exact h
theorem QG.un {e : Expr} {t : TG} (h : QG X e t) : PG X e t := by unfold QG at h; exact h
theorem QG.mk {e : Expr} {t : TG} (h : PG X e t) : QG X e t := by unfold QG; exact h
theorem QGs.un {es : List Expr} {t : TGs} (h : QGs X es t) : PGs X es t := by unfold QGs at h; exact h
theorem QGs.mk {es : List Expr} {t : TGs} (h : PGs X es t) : QGs X es t := by unfold QGs; exact h
theorem QI.un {tg e : Expr} {t : TI} (h : QI X tg e t) : PI X tg e t := by unfold QI at h; exact h
theorem QI.mk {tg e : Expr} {t : TI} (h : PI X tg e t) : QI X tg e t := by unfold QI; exact h
theorem QO.un {e : Option Expr} {t : TO} (h : QO X e t) : PO X e t := by unfold QO at h; exact h
theorem QO.mk {e : Option Expr} {t : TO} (h : PO X e t) : QO X e t := by unfold QO; exact h
theorem QTs.un {es : List Expr} {t : TT} (h : QTs X es t) : PTs X es t := by unfold QTs at h; exact h
theorem QTs.mk {es : List Expr} {t : TT} (h : PTs X es t) : QTs X es t := by unfold QTs; exact h
theorem ROp.un {f : Value → Value → Sem Value} {r : R2} (h : ROp X f r) : OpR X f r := by unfold ROp at h; exact h
theorem ROp.mk {f : Value → Value → Sem Value} {r : R2} (h : OpR X f r) : ROp X f r := by unfold ROp; exact h
theorem RUn.un {f : Value → Sem Value} {r : V → Hp → VK → Prop} (h : RUn X f r) : UnR X f r := by unfold RUn at h; exact h
theorem RUn.mk {f : Value → Sem Value} {r : V → Hp → VK → Prop} (h : UnR X f r) : RUn X f r := by unfold RUn; exact h
theorem RCall.un {f : Value} {r : List V → Hp → VK → Prop} (h : RCall X f r) : CallR X f r := by unfold RCall at h; exact h
theorem RCall.mk {f : Value} {r : List V → Hp → VK → Prop} (h : CallR X f r) : RCall X f r := by unfold RCall; exact h
theorem RIx.un {r : R2} (h : RIx X r) : IxR X r := by unfold RIx at h; exact h
theorem RIx.mk {r : R2} (h : IxR X r) : RIx X r := by unfold RIx; exact h
theorem RMt.un {id : String} {r : V → List V → Hp → VK → Prop} (h : RMt X id r) : MtR X id r := by unfold RMt at h; exact h
theorem RMt.mk {id : String} {r : V → List V → Hp → VK → Prop} (h : MtR X id r) : RMt X id r := by unfold RMt; exact h
theorem RSl.un {r : V → Option Int → Option Int → Hp → VK → Prop} (h : RSl X r) : SlR X r := by unfold RSl at h; exact h
theorem RSl.mk {r : V → Option Int → Option Int → Hp → VK → Prop} (h : SlR X r) : RSl X r := by unfold RSl; exact h
theorem RSet.un {r : TSet} (h : RSet X r) : PSet X r := by unfold RSet at h; exact h
theorem RSet.mk {r : TSet} (h : PSet X r) : RSet X r := by unfold RSet; exact h
theorem RIp.un {op : Operator} {r : TIp} (h : RIp X op r) : PIp X op r := by unfold RIp at h; exact h
theorem RIp.mk {op : Operator} {r : TIp} (h : PIp X op r) : RIp X op r := by unfold RIp; exact h
end
section
variable {X : Cx} {a b c e o l : Expr} {es rest : List Expr} {ta tb tc te to tl : TE} {t : TA} {pos : Pos} {tA tB' : TT}
theorem rAdd : ROp X (binaryOp .Add) rAddG := .mk op_addG
theorem rSub : ROp X (binaryOp .Sub) (rI0 fun i j => .int (i - j)) := .mk op_sub
theorem rMul : ROp X (binaryOp .Mult) (rI CMul fun i j => .int (i * j)) := .mk op_mul
theorem rMod : ROp X (binaryOp .Mod) (rI (fun _ j => 0 < j) fun i j => .int (i % j)) := .mk op_mod
theorem rPow : ROp X (binaryOp .Pow) (rI CPow fun i j => .int (i ^ j.toNat)) := .mk op_pow
theorem rNeg : RUn X (unaryOp .USub) (rU fun i => .int (-i)) := .mk un_neg
theorem rLt : ROp X (compareOp .Lt) (rI0 fun i j => .bl (decide (i < j))) := .mk op_lt
theorem rLe : ROp X (compareOp .LtE) (rI0 fun i j => .bl (decide (i ≤ j))) := .mk op_le
theorem rGt : ROp X (compareOp .Gt) (rI0 fun i j => .bl (decide (j < i))) := .mk op_gt
theorem rGe : ROp X (compareOp .GtE) (rI0 fun i j => .bl (decide (j ≤ i))) := .mk op_ge
theorem rEqq {k : Nat} {A : Around} (hr : Room k A) (hA : X.A = A := by rfl) : ROp X (compareOp .Eq) (rEqG 150) := .mk (op_eqG (by rw [hA]; exact hu_n hr))
theorem rNeq {k : Nat} {A : Around} (hr : Room k A) (hA : X.A = A := by rfl) : ROp X (compareOp .NotEq) (rNeG 150) := .mk (op_neG (by rw [hA]; exact hu_n hr))
theorem rIs : ROp X (compareOp .Is) (fun x y H Q => y = .non ∧ Q (.bl (decide (x = .non))) H) := .mk op_isN
theorem rIsNot : ROp X (compareOp .IsNot) (fun x y H Q => y = .non ∧ Q (.bl (!decide (x = .non))) H) := .mk op_notN
theorem rInn (K : PySem.W.Frag) (hK : X.K = K := by rfl) : ROp X (compareOp .In) (rIn K false) := .mk (kIn K hK)
theorem xIx (K : PySem.W.Frag) (hK : X.K = K := by rfl) : RIx X (rIxG K) := .mk (kIx K hK)
theorem xSet : RSet X rSetL := .mk set_list
theorem fLen (K : PySem.W.Frag) (hK : X.K = K := by rfl) : RCall X (.builtin "len") (rLen K) := .mk (kLen K hK)
theorem fList (K : PySem.W.Frag) (hK : X.K = K := by rfl) : RCall X (.type "list") (rListN K) := .mk (kListC K hK)
theorem mInsert : RMt X "list.insert" rInsert := .mk mt_insert
theorem mExtend : RMt X "list.extend" rExtend := .mk mt_extend
theorem qv (i : Nat) {x : Str} {pos : Pos} (hN : X.N[i]? = some x := by rfl) (hv : Vis X.env.scope x := by first | exact Or.inl rfl | exact Or.inr (Or.inl rfl) | exact Or.inr (Or.inr rfl)) (hd : (x == ("__debug__" : Str)) = false := by decide)
    (hcd : (x == ("__classdict__" : Str)) = false := by decide) : QE X (.Name x pos) (tVar i) := .mk (pe_var hN hv hd hcd)
theorem qint {i j pos} : QE X (.Constant (.int i) j pos) (tC (.int i)) := .mk pe_int
theorem qbl {b j pos} : QE X (.Constant (.bool b) j pos) (tC (.bl b)) := .mk pe_bl
theorem qnon {j pos} : QE X (.Constant .none j pos) (tC .non) := .mk pe_non
theorem qstr {x j pos} : QE X (.Constant (.str x) j pos) (tC (.str x)) := .mk pe_str
theorem qglobI {x : Str} {i : Int} {pos : Pos} (hg : Gl X x) (hm : ∃ tk, X.mg x = some (.int i tk)) (hd : (x == ("__debug__" : Str)) = false := by decide) : QE X (.Name x pos) (tC (.int i)) := by
  obtain ⟨tk, h⟩ := hm
  exact .mk (pe_glob hg h ⟨tk, rfl⟩ hd)
theorem qop {op : Operator} {r : R2} (ho : ROp X (binaryOp op) r) (ha : QE X a ta) (hb : QE X b tb) : QE X (.BinOp a op b pos) (tOp r ta tb) := .mk (pe_op ho.un ha.un hb.un)
theorem qun {op : UnaryOp} {r : V → Hp → VK → Prop} (ho : RUn X (unaryOp op) r) (ha : QE X a ta) : QE X (.UnaryOp op a pos) (tUn r ta) := .mk (pe_un ho.un ha.un)
theorem qcmp {op : CmpOp} {r : R2} (ho : ROp X (compareOp op) r) (ha : QE X a ta) (hb : QE X b tb) (hm : behindInMarks op b = false) : QE X (.Compare a [op] [b] pos) (tOp r ta tb) := .mk (pe_cmpR ho.un ha.un hb.un hm)
theorem qand (K : PySem.W.Frag) (ha : QE X a ta) (hb : QE X (.BoolOp .And (b :: rest) pos) tb) (hK : X.K = K := by rfl) : QE X (.BoolOp .And (a :: b :: rest) pos) (tAndG K ta tb) := .mk (kAnd K ha.un hb.un hK)
theorem qone {op} (h : QE X a te) : QE X (.BoolOp op [a] pos) te := .mk (pe_one h.un)
theorem qif (hc : QT X c tA) (ha : QE X a ta) (hb : QE X b tb) : QE X (.IfExp c a b pos) (tIf tA ta tb) := .mk (pe_ifExp hc.un ha.un hb.un)
theorem qnil : QA X [] tNil := .mk pa_nil
theorem qcons (ha : QE X e te) (hr : QA X es t) (h : notStar e = true := by rfl) : QA X (e :: es) (tCons te t) := .mk (paC ha.un hr.un h)
theorem qtup {x1} (h : QA X es t) : QE X (.Tuple es x1 pos) (tTupN t) := .mk (pe_tupN h.un)
theorem qlst (h : QA X es t) : QE X (.List es pos) (tLstN t) := .mk (pe_lstN h.un)
theorem qdict : QE X (.Dict [] [] pos) tDictN := .mk pe_dictN
theorem qix {r : R2} (hr : RIx X r) (ha : QE X a ta) (hb : QE X b tb) (hs : PlainIx b) : QE X (.Subscript a b pos) (tOp r ta tb) := .mk (pe_ix hr.un ha.un hb.un hs)
theorem qdget {td ty : TE} {i : Expr} {k : Nat} {A : Around} (hr : Room k A) (ho : QE X o td) (hi : QE X i ty) (hs : NoSl i) (hA : X.A = A := by rfl) : QE X (.Subscript o i pos) (tDGet td ty) := .mk (pe_dget (by rw [hA]; exact hu_of hr) ho.un hi.un hs)
theorem qF {CX : CXT} {k : Nat} {x : Str} {sp : Sp} {E : XK} {p pos : Pos} (C : Cal X.prog X.w X.K X.mg X.base CX k x sp) (hr : Room k X.A) (hx : Passes CX X E) (hg : Gl X x)
    (ha : QA X (e :: es) t) (hdb : (x == ("__debug__" : Str)) = false := by decide) (h : (e :: es).all notStar = true := by rfl) : QE X (.Call (.Name x p) (e :: es) [] pos) (tCallF sp E t) := .mk (cF C hr hx hg ha.un hdb h)
theorem qB {id : String} {r : List V → Hp → VK → Prop} {x : Str} {p pos : Pos} (hc : RCall X (.builtin id) r) (hg : Gl X x) (hm : X.mg x = none) (hv : bootBuiltins x = some (.builtin id)) (ha : QA X (e :: es) t) (hn : x ≠ "__name__" := by decide) (hdb : (x == ("__debug__" : Str)) = false := by decide)
    (h : (e :: es).all notStar = true := by rfl) : QE X (.Call (.Name x p) (e :: es) [] pos) (tCB r t) := .mk (cB hc.un hg hm hv ha.un hn hdb h)
theorem qTy {T : String} {r : List V → Hp → VK → Prop} {x : Str} {p pos : Pos} (hc : RCall X (.type T) r) (hg : Gl X x) (hm : X.mg x = none) (hv : bootBuiltins x = some (.type T)) (ha : QA X (e :: es) t) (hn : x ≠ "__name__" := by decide) (hdb : (x == ("__debug__" : Str)) = false := by decide)
    (h : (e :: es).all notStar = true := by rfl) : QE X (.Call (.Name x p) (e :: es) [] pos) (tCB r t) := .mk (cTy hc.un hg hm hv ha.un hn hdb h)
theorem qBm {name : Str} {apos cpos : Pos} {T id : String} {r : V → List V → Hp → VK → Prop} (K : PySem.W.Frag) (pa : PlainAttrs T) (slot : Slot T name id) (hty : typeOf (.builtin id) = pure (.type "method_descriptor")) (hm : RMt X id r) (ho : QE X o to) (ha : QA X (e :: es) t)
    (hbase : attributeBase o name X.env (eval o X.env) = eval o X.env := by rfl) (h : (e :: es).all notStar = true := by rfl) (hl : decide ((e :: es).length < 30) = true := by rfl)
    (hline : (apos.endLine == cpos.line) = true := by rfl) (hK : X.K = K := by rfl) : QE X (.Call (.Attribute o name apos) (e :: es) [] cpos) (tBM K T r to t) := .mk (kBm K pa slot hty hm.un ho.un ha.un hbase h hl hline hK)
theorem tcmp {op : CmpOp} {r : R2} (ho : ROp X (compareOp op) r) (ha : QE X a ta) (hb : QE X b tb) (hm : behindInMarks op b = false) : QT X (.Compare a [op] [b] pos) (tTest (tOp r ta tb)) := .mk (pt_cmpR ho.un ha.un hb.un hm)
theorem ttru (K : PySem.W.Frag) (ha : QE X a ta) (he : ∀ whole, isTrue a X.env whole = (do let v ← whole; standAt a.pos; holding [v] (truthy v))) (hK : X.K = K := by rfl) : QT X a (tTru K ta) := .mk (kTru K ha.un he hK)
theorem tnot (ha : QT X a tA) : QT X (.UnaryOp .Not a pos) (tNot tA) := .mk (pt_not ha.un)
theorem wand1 (ha : QT X a tA) : QW X (.BoolOp .And [a] pos) tA := .mk (pw_and1 ha.un)
theorem wor1 (ha : QT X a tA) : QW X (.BoolOp .Or [a] pos) tA := .mk (pw_or1 ha.un)
theorem wand (ha : QT X a tA) (hb : QW X (.BoolOp .And (b :: rest) pos) tB') : QW X (.BoolOp .And (a :: b :: rest) pos) (tAnd tA tB') := .mk (pw_and ha.un hb.un)
theorem wor (ha : QT X a tA) (hb : QW X (.BoolOp .Or (b :: rest) pos) tB') : QW X (.BoolOp .Or (a :: b :: rest) pos) (tOr tA tB') := .mk (pw_or ha.un hb.un)
theorem QW.tst (h : QW X a tA) : QT X a tA := .mk h.un.pt
theorem gname {i : Nat} {x : Str} (hN : X.N.Nodup) (hi : X.N[i]? = some x) (hx : Loc X.env.scope x) (hf : X.fn x = true ∨ X.env.scope.names.lookup x = some .local := by first | exact .inl rfl | exact .inr rfl | assumption) : QG X (.Name x pos) (gName i) := .mk (pg_name hN hi hx hf)
theorem gsnil : QGs X [] gNil := .mk pgs_nil
theorem gscons {t : TG} {u : TGs} (h1 : QG X e t) (h2 : QGs X es u) (hs : (assignEach (e :: es) X.env).map (·.2) = assign e X.env :: (assignEach es X.env).map (·.2) := by rfl) : QGs X (e :: es) (gCons t u) := .mk (pgs_cons h1.un h2.un hs)
theorem gtup {k : Nat} {t : TGs} {n : Nat} (K : PySem.W.Frag) (hc : X.calm = true) (h : QGs X es t) (hn : (assignEach es X.env).length = n := by rfl) (hst : (assignEach es X.env).findIdx? (·.1) = none := by rfl) (hK : X.K = K := by rfl) : QG X (.Tuple es k pos) (gTup K n t) := by
  subst hK; exact .mk (pg_tup hc h.un hn hst)
theorem gsub {i : Expr} {ti : TE} {t : TSet} (ho : QE X o to) (hi : QE X i ti) (hs : RSet X t) 
    (ha : ∀ v, assign (.Subscript o i pos) X.env v = (do
      let ov ← holding [v] (eval o X.env)
      let iv ← holding [v, ov] (eval i X.env)
      standAt pos
      holding [v, ov, iv] (setItem ov iv v)
      release [v, ov, iv] []) := by intro _; rfl) : QG X (.Subscript o i pos) (gSub to ti t) := .mk (pg_sub ho.un hi.un hs.un ha)
theorem iseq {tg : Expr} (K : PySem.W.Frag) (hl : QE X l tl) (hK : X.K = K := by rfl) : QI X tg l (iSeq K tl) := .mk (kSeq K hl.un hK)
theorem irange1 {tg : Expr} {ta : TA} {p pos : Pos} (hg : Gl X "range") (hm : X.mg "range" = none) (ha : QA X [a] ta) (h : notStar a = true := by rfl) : QI X tg (.Call (.Name "range" p) [a] [] pos) (iRng1 ta) := .mk (iRange1 hg hm ha.un h)
theorem csnil : QTs X [] tT0 := .mk pts_nil
theorem csone (h : QT X c tA) : QTs X [c] tA := .mk (pts_one h.un)
theorem qcomp {elt target iter : Expr} {ifs : List Expr} {scope : Scope} {pos : Pos} {wi : TI} {g : TG} {tt : TT} {te : TE} {sc : Scope} {NX : List Str} (N' : List Str) (cs : List (Option Nat)) (hc : X.calm = true)
    (hi : QI X target iter wi) (hg : ∀ fp s3 H3, QG (cxC X N' scope fp s3 H3) target g) (ht : ∀ fp s3 H3, QTs (cxC X N' scope fp s3 H3) ifs tt) (he : ∀ fp s3 H3, QE (cxC X N' scope fp s3 H3) elt te)
    (hsc : X.env.scope = sc) (hN : X.N = NX) (hcs : csOk sc NX N' cs scope = true) (hs : ∀ x, foldedSetIterable iter X.env x = pure x := by intro _; rfl) :
    QE X (.ListComp elt [⟨target, iter, ifs, 0⟩] scope pos) (tComp cs wi g tt te) :=
  .mk (pe_comp N' cs hc hi.un (fun fp s3 H3 => (hg fp s3 H3).un) (fun fp s3 H3 => (ht fp s3 H3).un) (fun fp s3 H3 => (he fp s3 H3).un) hsc hN hcs hs)
variable {st : Stmt} {sts : List Stmt} {t1 t2 : TS}
theorem bnil : QSs X [] tNext := .mk pss_nil
theorem bcons (h1 : QS X st t1) (h2 : QSs X sts t2) : QSs X (st :: sts) (tSeq t1 t2) := .mk (pss_cons h1.un h2.un)
theorem bone (h1 : QS X st t1) : QSs X [st] t1 := .mk (pss_one h1.un)
theorem sexpr (he : QE X e te) (hs : swapsWith e none pos.line X.env = pure false := by rfl) : QS X (.Expr e pos) (tDrop te) := .mk (ps_expr he.un hs)
theorem sret (he : QE X e te) : QS X (.Return (some e) pos) (tRet te) := .mk (ps_ret he.un)
theorem sif {c : Expr} {a b : List Stmt} {tc : TT} (hc : QT X c tc) (ha : QSs X a t1) (hb : QSs X b t2) : QS X (.If c a b pos) (tIfS tc t1 t2) := .mk (ps_if hc.un ha.un hb.un)
theorem sset {i : Nat} {x : Str} {pos' : Pos} (hN : X.N.Nodup) (hi : X.N[i]? = some x) (hx : Loc X.env.scope x) (he : QE X e te) (hs : swapsWith e (some (.Name x pos')) pos.line X.env = pure false := by rfl) (hf : X.fn x = true ∨ X.env.scope.names.lookup x = some .local := by first | exact .inl rfl | exact .inr rfl | assumption) :
    QS X (.Assign [.Name x pos'] e pos) (tAsg te (gName i)) := .mk (ps_set hN hi hx he.un hs hf)
theorem ssetC {i : Nat} {y : Str} {py spos : Pos} {elt target iter : Expr} {ifs : List Expr} {scope : Scope} {pos : Pos} {wi : TI} {g : TG} {tt : TT} {te : TE} {sc : Scope} {NX : List Str} (N' : List Str) (cs : List (Option Nat)) (hc : X.calm = true)
    (hND : X.N.Nodup) (hiN : X.N[i]? = some y) (hy : X.env.scope.names.lookup y = some .local)
    (hi : QI X target iter wi) (hg : ∀ fp s3 H3, QG (cxC X N' scope fp s3 H3) target g) (ht : ∀ fp s3 H3, QTs (cxC X N' scope fp s3 H3) ifs tt) (he : ∀ fp s3 H3, QE (cxC X N' scope fp s3 H3) elt te)
    (hsc : X.env.scope = sc) (hN : X.N = NX) (hcs : csOk sc NX N' cs scope = true)
    (hsw : swapsWith (.ListComp elt [⟨target, iter, ifs, 0⟩] scope pos) (some (.Name y py)) spos.line X.env = pure true)
    (hs : ∀ x, foldedSetIterable iter X.env x = pure x := by intro _; rfl) :
    QS X (.Assign [.Name y py] (.ListComp elt [⟨target, iter, ifs, 0⟩] scope pos) spos) (tAsg (tComp cs wi g tt te) (gName i)) :=
  .mk (ps_setC N' cs hc hND hiN hy hi.un (fun fp s3 H3 => (hg fp s3 H3).un) (fun fp s3 H3 => (ht fp s3 H3).un) (fun fp s3 H3 => (he fp s3 H3).un) hsc hN hcs hsw hs)
theorem sasg {tg : Expr} {g : TG} (he : QE X e te) (hg : QG X tg g) (hs : swapsWithSole [tg] e pos.line X.env = pure false := by rfl) (hw : swappedStores [tg] e X.env = pure none := by rfl)
    (h1 : (assignEach [tg] X.env).map (·.2) = [assign tg X.env] := by rfl) : QS X (.Assign [tg] e pos) (tAsg te g) := .mk (ps_asg he.un hg.un hs hw h1)
theorem sdput {i value : Expr} {td ty tv : TE} {pos' : Pos} {k : Nat} {A : Around} (hr : Room k A) (ho : QE X o td) (hi : QE X i ty) (hv : QE X value tv) (hs : swapsWith value (some (.Subscript o i pos')) pos.line X.env = pure false) (hA : X.A = A := by rfl) :
    QS X (.Assign [.Subscript o i pos'] value pos) (sDPut td ty tv) := .mk (ps_dput (by rw [hA]; exact hu_of hr) ho.un hi.un hv.un hs)
theorem sfor {tg iter : Expr} {body : List Stmt} {wi : TI} {g : TG} {tb : TS} (hp : PassesOwn (model X.prog X.w) X.A X.env X.xe) (hc : X.calm = true) (hi : QI X tg iter wi) (hg : QG X tg g) (hb : QSs X body tb)
    (hs : ∀ x, foldedSetIterable iter X.env x = pure x := by intro _; rfl) : QS X (.For tg iter body [] pos) (tFor wi g tb) := .mk (ps_for hp hc hi.un hg.un hb.un hs)
theorem swhile {c : Expr} {body : List Stmt} {tc : TT} {tb : TS} (hp : PassesOwn (model X.prog X.w) X.A X.env X.xe) (hc : QT X c tc) (hb : QSs X body tb) : QS X (.While c body [] pos) (tWhile tc tb) := .mk (ps_while hp hc.un hb.un)
end
theorem split {X : Cx} {body : List Stmt} {D : Ends} {σ : St} {H : Hp} (n : Nat) (M : St → Hp → Prop) (h2 : ∃ t, QSs X (body.drop n) t ∧ ∀ σ' H', M σ' H' → t D σ' H')
    (h1 : ∀ u, QSs X (body.drop n) u → (∀ σ' H', M σ' H' → u D σ' H') → ∃ t, QSs X body t ∧ t D σ H) : ∃ t, QSs X body t ∧ t D σ H := by
  obtain ⟨t, p, q⟩ := h2
  exact h1 t p q
theorem Fd.cal {P : Program} {w : World} {K : PySem.W.Frag} {mg : Str → Option Value} {base : Heap} {x : Str} {st : Stmt} {f : Addr} {N ps : List Str} {k : Nat} {sp : Sp} (F : Fd K mg x st f) (S : FnScope N ps (defScope st))
    (hb : ∀ (kV doc pm : Value) (an : Option Addr) (cdv ct : Value) (us : List Value), us.length = ps.length → bindArgs (PySem.W.fnOf x x (defArgs st) (defBody st) (defScope st) .none kV doc pm an cdv ct) ⟨us, []⟩ = pure (ps.zip us))
    (len : ∀ vs H Q E, sp vs H Q E → vs.length = ps.length)
    (hbody : ∀ (cdv : Value) (A : Around) (outer : List Env) (s : Shared) (H : Hp) (vs : List V) (Q : VK) (E : XK), Room k (A.deeper (envOfC x (defScope st) s.heap.objs.size f cdv)) → sp vs H Q E →
      ∃ t, QSs (cxOf CX0 P w K mg base N x (defScope st) f cdv A outer s H E).nox (defBody st) t ∧ t { nx := fun _ H' => Q .non H', rt := Q } (start N vs) H) : Cal P w K mg base CX0 (k + 1) x sp := by
  obtain ⟨⟨fd, F1⟩, F2⟩ := F
  refine ⟨f, fd, ps, F1.ok S len (fun cdv A outer s H vs Q E hr h => ?_), F2, F1.kp, F1.binds hb⟩
  obtain ⟨t, p, q⟩ := hbody cdv A outer s H vs Q E hr h
  exact ⟨t, p.un, q⟩
end L3
namespace L3
open PySem L2
noncomputable def D.ty : D → String
  | .non => "NoneType"
  | .bl _ => "bool"
  | .int _ => "int"
  | .str _ => "str"
  | .tup _ => "tuple"
  | .lst _ => "list"
  | .emp => "dict"
theorem Rep.ty {K : PySem.W.Frag} {H : Hp} {v : V} {e : D} (h : Rep H v e) : TyOf K H v (.type e.ty) := by
  cases h with
  | non => exact .non
  | bl b => exact .bl b
  | int i => exact .int i
  | str x => exact .str x
  | tup e _ => exact .tup e
  | lst e _ => exact .lst e
  | emp e => exact .dK e
end L3
namespace L3
open PySem L2
end L3
namespace L3
open PySem L2 PyProof.Rows
theorem okQ {P : Program} {w : World} {K : PySem.W.Frag} {mg : Str → Option Value} {base : Heap} {x : Str} {st : Stmt} {f : Addr} {fd : FuncData} {N ps : List Str} {k : Nat} {sp : Sp} (F : Fun K x x st f fd) (S : FnScope N ps (defScope st))
    (len : ∀ vs H Q E, sp vs H Q E → vs.length = ps.length)
    (hbody : ∀ (cdv : Value) (A : Around) (outer : List Env) (s : Shared) (H : Hp) (vs : List V) (Q : VK) (E : XK), Room k (A.deeper (envOfC x (defScope st) s.heap.objs.size f cdv)) → sp vs H Q E →
      ∃ t, QSs (cxOf CX0 P w K mg base N x (defScope st) f cdv A outer s H E).nox (defBody st) t ∧ t { nx := fun _ H' => Q .non H', rt := Q } (start N vs) H) : FnOk P w K mg base CX0 (k + 1) f fd ps sp := by
  refine F.ok S len (fun cdv A outer s H vs Q E hr h => ?_)
  obtain ⟨t, p, q⟩ := hbody cdv A outer s H vs Q E hr h
  exact ⟨t, p.un, q⟩
end L3
namespace L3
open PySem PySem.Spec PyProof.Rows L2
section
variable {X : Cx}
noncomputable def CDivB (i j : Int) : Prop := 0 < j ∧ j < 2 ^ 1000
theorem op_fdivB : OpR X (binaryOp .FloorDiv) (rI CDivB fun i j => .int (i / j)) := opI fun i j _ _ _ _ _ hc q => by
  refine floordiv_int (by have := hc.1; lia) (by rw [Int.fdiv_eq_ediv_of_nonneg _ (Int.le_of_lt hc.1)]; exact q) (.inl (PyProof.noPylong_of_log2 ?_))
  by_cases h0 : j.natAbs = 0
  · rw [h0]; decide +kernel
  · have : j.natAbs < 2 ^ 1000 := by have := hc.1; have := hc.2; lia
    exact Nat.lt_trans ((Nat.log2_lt h0).mpr this) (by decide)
theorem rDivB : ROp X (binaryOp .FloorDiv) (rI CDivB fun i j => .int (i / j)) := .mk op_fdivB
noncomputable def rMaxL (K : PySem.W.Frag) : List V → Hp → VK → Prop := fun xs H Q => ∃ (p : Addr) (ns : List Int), xs = [.ref p] ∧ SqL K H p (ns.map V.int) ∧ 0 < ns.length ∧ ∀ M, M ∈ ns → (∀ a ∈ ns, a ≤ M) → Q (.int M) H
theorem call_maxL (hc : X.calm = true) : CallR X (.builtin "max") (rMaxL X.K) := by
  intro pins s σ H xs us Q I rv h
  obtain ⟨p, ns, rfl, hp, hne, q⟩ := h
  obtain ⟨u, rfl, ru⟩ := vals1 rv
  cases ru
  obtain ⟨its, r, pl, hz⟩ := I.list hp
  have hi := intsAre_of r
  obtain ⟨ys, e⟩ := hi.allInts.items
  have hns : ns = ys.toList.map (·.1) := by rw [← hi.numsOf, ← nums_intItems, ← e]
  have hsz : 0 < ys.size := by
    have h3 := hne; rw [hns, List.length_map, Array.length_toList] at h3; exact h3
  have hl := pl.isList
  rw [e] at hl
  refine max_intList (I.ok.hd hc) hl hsz fun v h' tk hv hk => ?_
  obtain ⟨t, rfl⟩ := intItems_at hv
  obtain ⟨h1, h2⟩ := argBest_gt (numAt ys) (ys.size - 1)
  refine ⟨.int _, H, I.kept hk, ⟨t, rfl⟩, q _ ?_ fun a ha => ?_⟩
  · rw [hns, numAt_eq]; exact getD_mem (by rw [List.length_map, Array.length_toList]; lia)
  · rw [hns] at ha
    obtain ⟨j, hj, rfl⟩ := mem_getD ha
    rw [List.length_map, Array.length_toList] at hj
    rw [← numAt_eq]; exact h2 j (by lia)
noncomputable def rSumL (K : PySem.W.Frag) : List V → Hp → VK → Prop := fun xs H Q => ∃ (p : Addr) (ns : List Int), xs = [.ref p] ∧ SqL K H p (ns.map V.int) ∧ Q (.int ns.sum) H
theorem call_sumL (hc : X.calm = true) : CallR X (.builtin "sum") (rSumL X.K) := by
  intro pins s σ H xs us Q I rv h
  obtain ⟨p, ns, rfl, hp, q⟩ := h
  obtain ⟨u, rfl, ru⟩ := vals1 rv
  cases ru
  obtain ⟨its, r, pl, hz⟩ := I.list hp
  have hi := intsAre_of r
  obtain ⟨ys, e⟩ := hi.allInts.items
  have hns : ns = ys.toList.map (·.1) := by rw [← hi.numsOf, ← nums_intItems, ← e]
  have hl := pl.isList
  rw [e] at hl
  refine sum_intListG (I.ok.hd hc) hl fun h' tk t' hk => ?_
  refine ⟨.int ns.sum, H, I.kept hk, ⟨t', ?_⟩, q⟩
  rw [preSum_eq, hns, List.take_of_length_le (by rw [List.length_map, Array.length_toList]; exact Nat.le_refl _)]
theorem fMax (K : PySem.W.Frag) (hc : X.calm = true := by rfl) (hK : X.K = K := by rfl) : RCall X (.builtin "max") (rMaxL K) := by subst hK; exact .mk (call_maxL hc)
theorem fSum (K : PySem.W.Frag) (hc : X.calm = true := by rfl) (hK : X.K = K := by rfl) : RCall X (.builtin "sum") (rSumL K) := by subst hK; exact .mk (call_sumL hc)
end
end L3
namespace HT
open PySem PyProof.Rows
section
open PySem.SeqAt
open PySem.AutoSeq1 (wpAny_loadPart')
open PySem.MeetsSeq PySem.MeetsSeq2 PySem.MeetsSeq3
theorem lex_end {vs ws : List Value} {ns ms : List Int} {a b : Nat} (hv : IntsAre vs ns) (hw : IntsAre ws ms) (hz : vs.zip ws = []) (hl : ns.length + b = ms.length + a) : lexLt ns ms = decide (a < b) := by
  cases hv with
  | nil =>
    cases hw with
    | nil =>
      simp only [List.length_nil] at hl
      exact (decide_eq_false (by lia)).symm
    | cons c u hw =>
      simp only [List.length_nil, List.length_cons] at hl
      exact (decide_eq_true (by lia)).symm
  | cons a t hv =>
    cases hw with
    | nil =>
      simp only [List.length_nil, List.length_cons] at hl
      exact (decide_eq_false (by lia)).symm
    | cons c u hw => cases hz
end
section
variable {prog : Program} {w : World} {A : Around} {E : Value → Shared → Prop} {s : Shared}
end
end HT
namespace L3
open PySem PySem.Spec PyProof.Rows L2
section
variable {X : Cx}
theorem vals_of_ints : ∀ {us : List Value} {ns : List Int}, IntsAre us ns → Vals (ns.map V.int) us
  | _, _, .nil => .nil
  | _, _, .cons n t r => .cons ⟨t, rfl⟩ (vals_of_ints r)
noncomputable def rSortL (K : PySem.W.Frag) : List V → Hp → VK → Prop := fun xs H Q => ∃ (p : Addr) (ns : List Int), xs = [.ref p] ∧ SqL K H p (ns.map V.int) ∧ ns.length < 64 ∧
  ∀ (q : Addr) (H' : Hp) (ns' : List Int), H q = none → Same H H' → H' q = some (.lst (ns'.map V.int)) → ns'.Perm ns → ns'.Pairwise (· ≤ ·) → Q (.ref q) H'
theorem call_sortL : CallR X (.builtin "sorted") (rSortL X.K) := by
  intro pins s σ H xs us Q I rv h
  obtain ⟨p, ns, rfl, hp, hn, q⟩ := h
  obtain ⟨u, rfl, ru⟩ := vals1 rv
  cases ru
  obtain ⟨its, r, pl, hz⟩ := I.list hp
  have hi := intsAre_of r
  have hlen := r.length
  rw [List.length_map] at hlen
  refine sorted_ints pl.isList hi (by lia) fun out ns' a1 a2 a3 => ?_
  obtain ⟨e, he⟩ := sortedAll_at s.heap its out
  have hl' : ns'.length = ns.length := a2.length_eq
  have hf : H (s.heap.objs.size + 1) = none := I.hok.fresh (Nat.le_succ _)
  refine ⟨.ref (s.heap.objs.size + 1), _, I.laid (t' := s.toks) (o := .lst (ns'.map V.int)) (fun b ob q => sortedAll_old q) (Nat.le_succ _) ⟨by rw [List.length_map]; exact Nat.le_of_lt (Nat.lt_of_lt_of_le (by lia : ns'.length < 64) (by decide)), out.toList, e, vals_of_ints a1, he⟩, rfl, q _ _ ns' hf (same_new hf) upd_same a2 a3⟩
theorem fSort (K : PySem.W.Frag) (hK : X.K = K := by rfl) : RCall X (.builtin "sorted") (rSortL K) := by subst hK; exact .mk call_sortL
end
end L3
namespace HT
open PySem PyProof.Rows
section
variable {prog : Program} {w : World} {A : Around} {R : Result → Shared → Prop} {I : Addr} {fp wr : List Addr} {n : Nat} {P : Nat → Value → Prop} {St : Nat → Heap → Prop} {K : Type} [DecidableEq K] {knd : KeyKind prog w K}
end
section
variable {prog : Program} {w : World} {A : Around} {E : Value → Shared → Prop} {s : Shared} {K : Type} [DecidableEq K] {knd : KeyKind prog w K}
end
end HT
namespace L3
open PySem PySem.Spec PyProof.Rows L2
section
variable {X : Cx}
end
end L3
namespace L3
open PySem PySem.Spec PyProof.Rows L2
section
variable {X : Cx} {pins : List (Addr × Obj)} {σ : L2.St} {H : Hp} {s : Shared} {h' : Heap}
end
section
variable {X : Cx}
end
end L3
namespace L3
open PySem PySem.Spec PyProof.Rows L2
section
variable {X : Cx}
variable {o e f : Expr} {apos cpos : Pos} {td ty tx : TE} {k : Nat} {A : Around}
theorem qdp1 (ho : QE X o td) (he : QE X e ty) (m : M1 X o "pop" apos e cpos := by constructor <;> rfl) : QE X (.Call (.Attribute o "pop" apos) [e] [] cpos) (tDPop1 td ty) := .mk (pe_dpop1 ho.un he.un m)
end
end L3
namespace L3
open PySem PySem.Spec PyProof.Rows L2
noncomputable def epOf (o : Obj) : Nat := match o.data with
  | .dict _ ep => ep
  | _ => 0
theorem frz_at {P : Program} {w : World} {H : Hp} {h : Heap} {a : Addr} {ob : Obj} {kvs : List (Key × V)} (ok : HOk P w H h) (e : H a = some (.frz ob (.dK kvs))) : ∃ vs, KV kvs vs ∧ (a == sysModules) = false ∧ h.DictAt (mixKind P w) a vs (epOf ob) := by
  obtain ⟨hg, z, hs, vs, rel, o, es, ep, ho, hc, hd, r⟩ := (show ObjOk P w H h a (.frz ob (.dK kvs)) from ok a _ e)
  rw [hg] at ho
  cases ho
  refine ⟨vs, rel, hs, ob, es, hg, hc, ?_, r⟩
  unfold epOf
  rw [hd]
section
variable {X : Cx} {tg : Expr}
variable {g : TG} {tt : TT} {te : TE} {acc : Addr} {σ0 : L2.St} {H0 : Hp} {Q : Hp → Prop}
end
end L3
namespace L3
open PySem PySem.Spec PyProof.Rows L2
section
variable {X : Cx}
end
section
variable {X : Cx}
end
end L3
namespace L3
open PySem PySem.Spec PyProof.Rows L2
section
variable {X : Cx} {pins : List (Addr × Obj)} {σ : L2.St} {H : Hp} {s : Shared} {a : Addr} {y d : V} {u r : Value} {o : Option V} {A : Around} {E : Value → Shared → Prop}
end
section
variable {X : Cx} {o e f : Expr} {apos cpos : Pos} {td ty tx : TE}
variable {k : Nat} {A : Around}
end
@[irreducible] noncomputable def QP (X : Cx) (pos : Pos) (ks : List (Option Expr)) (vs : List Expr) (trs : List (TE × TE)) : Prop := PPs X pos ks vs trs
section
variable {X : Cx} {pos : Pos} {kx vx : Expr} {ks : List (Option Expr)} {vs : List Expr} {tk tv : TE} {trs : List (TE × TE)}
theorem QP.un (h : QP X pos ks vs trs) : PPs X pos ks vs trs := by unfold QP at h; exact h
end
end L3
namespace L3
open PySem PySem.Spec PyProof.Rows L2
section
variable {X : Cx}
variable {a b : Expr} {ta tb : TE} {pos : Pos} {k : Nat} {A : Around}
end
end L3
namespace L3
open PySem PySem.Spec PyProof.Rows L2
section
variable {X : Cx}
end
end L3
namespace L3
open PySem PySem.Spec PyProof.Rows L2
section
variable {X : Cx}
end
end L3
namespace L3
open PySem PySem.Spec PyProof.Rows L2
section
variable {X : Cx}
end
section
variable {prog : Program} {w : World} {A : Around} {E : Value → Shared → Prop} {s : Shared}
end
end L3
namespace L3
open PySem PySem.Spec PyProof.Rows L2
section
variable {prog : Program} {w : World} {A : Around} {E : Value → Shared → Prop} {s : Shared}
end
end L3
namespace L3
open PySem PySem.Spec PyProof.Rows L2
section
variable {X : Cx}
end
end L3
namespace L3
open PySem PySem.Spec PyProof.Rows L2
section
variable {X : Cx}
end
end L3
namespace L3
open PySem PySem.Spec PyProof.Rows L2
section
variable {prog : Program} {w : World} {A : Around}
variable {R : Result → Shared → Prop} {it : Addr} {fp wr : List Addr} {n : Nat} {P : Nat → Value → Prop} {St : Nat → Heap → Prop} {kw : List (Str × Value)}
end
section
variable {X : Cx}
end
end L3
namespace HT
open PySem PyProof.Rows
section
variable {prog : Program} {w : World} {A : Around} {E : Value → Shared → Prop} {s : Shared}
end
end HT
namespace HT
open PySem PyProof.Rows
section
variable {prog : Program} {w : World} {A : Around} {E : Value → Shared → Prop} {s : Shared}
variable {R : Result → Shared → Prop} {K : Type} [DecidableEq K] {knd : KeyKind prog w K}
end
end HT
namespace L3
open PySem PySem.Spec PyProof.Rows L2
section
variable {X : Cx}
end
end L3
namespace L3
open PySem PySem.Spec PyProof.Rows L2
section
variable {X : Cx}
end
end L3
namespace L3
open PySem PySem.Spec PyProof.Rows L2
noncomputable def Itw (ob : Obj) (a : Addr) (kvs : List (Key × V)) : It :=
  ⟨fun i H => H a = some (.frz ob (.dK kvs)) ∧ i < kvs.length, fun i H v H' => H' = H ∧ ∃ k, kvs[i]? = some (k, v), fun i H => H a = some (.frz ob (.dK kvs)) ∧ kvs.length ≤ i⟩
theorem kv_at {kvs : List (Key × V)} {vs : List (Key × Value)} (r : KV kvs vs) : ∀ {i : Nat} {k : Key} {v : Value}, vs[i]? = some (k, v) → ∃ x, kvs[i]? = some (k, x) ∧ RelV x v := by
  unfold KV at r
  induction r with
  | nil => intro i k v e; simp at e
  | @cons p q ps qs h t ih =>
    intro i k v e
    cases i with
    | zero =>
      simp at e
      subst e
      obtain ⟨h1, h2⟩ := h
      exact ⟨p.2, by rw [List.getElem?_cons_zero, ← (show p.1 = k from h1)], h2⟩
    | succ i => simpa using ih (by simpa using e)
theorem turn_vals {P : Program} {w : World} {K : PySem.W.Frag} {tg : Expr} (ob : Obj) (a it : Addr) (kvs : List (Key × V)) (hne : a ≠ it) : Turn P w K tg (Itw ob a kvs) [it] it (fun i h => h.IsValIter it a i kvs.length (epOf ob)) where
  mem := by simp
  obj := fun i h st b hb => by
    have e : b = it := by simpa using hb
    subst e
    obtain ⟨o, e, c, d⟩ := st
    exact ⟨o, e, fun v z => by rw [d] at z; cases z⟩
  keep := fun i h h' st k => by
    obtain ⟨o, e, r⟩ := st
    exact ⟨o, k it (by simp) o e, r⟩
  item := by
    intro X hP hw hK hc i pins s σ H E I hf st hg
    subst hP hw hK
    obtain ⟨e, hi⟩ := hg
    obtain ⟨vs, rel, hs, hd⟩ := frz_at I.hok e
    have hlen := rel.length
    obtain ⟨f0, f1, f2, f3, f4, f5⟩ := hf it (by simp)
    obtain ⟨⟨k, y⟩, hk⟩ : ∃ p, vs[i]? = some p := ⟨vs[i]'(by lia), List.getElem?_eq_getElem (by lia)⟩
    obtain ⟨x, hx, rx⟩ := kv_at rel hk
    have st' : s.heap.IsValIter it a i vs.length (epOf ob) := by rw [← hlen]; exact st
    refine wpAny_pyNext_values_item st' hd hk fun h' hit' sb => ?_
    have I1 : Inv X pins σ H { s with heap := h' } := I.turned (t' := s.toks) (fun b o hb e => (sb.2 b hb).trans e) f0 f1 f3 f4 f5
    rw [← hlen] at hit'
    obtain ⟨o, e', c, d⟩ := id hit'
    exact ⟨y, rfl, go_of (s := { s with heap := h' }) e' c d (by decide) ⟨x, H, I1, rx, ⟨rfl, k, hx⟩, hit', fun b hb => (hf b hb).1⟩⟩
  done := by
    intro X hP hw hK hc i pins s σ H E I hf st hg
    subst hP hw hK
    obtain ⟨e, hi⟩ := hg
    obtain ⟨vs, rel, hs, hd⟩ := frz_at I.hok e
    have hlen := rel.length
    obtain ⟨f0, f1, f2, f3, f4, f5⟩ := hf it (by simp)
    have st' : s.heap.IsValIter it a i vs.length (epOf ob) := by rw [← hlen]; exact st
    exact wpAny_pyNext_values_end (I.ok.hd hc) st' hd (List.getElem?_eq_none (by lia)) fun h' eb => ⟨rfl, I.turned (t' := s.toks) (fun b o hb e => eb b o hb e) f0 f1 f3 f4 f5⟩
  self := fun _ _ _ _ _ st h => wpAny_pyIter_valiter st h
section
variable {X : Cx} {tg : Expr}
noncomputable def iVals (tl : TE) : TI := fun σ H R => tl σ H fun x H1 => ∃ a kvs, x = .ref a ∧ Rd H1 a (.dK kvs) ∧ ∀ ob H4, H4 a = some (.frz ob (.dK kvs)) → Same (rm a H1) H4 → R (Itw ob a kvs) H4
theorem pi_vals {o : Expr} {to : TE} {apos cpos : Pos} (ho : PE X o to) (hbase : attributeBase o "values" X.env (eval o X.env) = eval o X.env := by rfl) (hline : (apos.endLine == cpos.line) = true := by rfl) : PI X tg (.Call (.Attribute o "values" apos) [] [] cpos) (iVals to) := by
  intro pins s σ H R I h
  refine wpAny_Call_method0_late hbase hline (thn (ho pins s σ H _ I h) fun v s1 hh => ?_)
  obtain ⟨x, H1, I1, r1, q1⟩ := hh
  obtain ⟨a, kvs, e, hrd, q⟩ := q1
  subst e
  cases r1
  have key : ∀ (H2 : Hp) (ob : Obj), Inv X pins σ H2 s1 → H2 a = some (.frz ob (.dK kvs)) → R (Itw ob a kvs) H2 → MethodOn X.prog X.w X.A "values" cpos (.ref a) [] (fun v s1 => wpAny (model X.prog X.w) X.A (pyIter v) (PIE X pins σ tg R) X.xe s1) X.xe s1 := fun H2 ob I2 e q => by
    obtain ⟨vs, rel, hs, hd⟩ := frz_at I2.hok e
    have hlen := rel.length
    obtain ⟨o, es, ho', hc', r'⟩ := id hd
    have hD : s1.heap.DictOf (mixKind X.prog X.w) a vs := ⟨o, es, _, ho', hc', r'⟩
    refine ⟨"dict", "dict.values", PySem.F.plainAttrs_dict, PySem.F.slot_dict_values, PySem.F.type_dict_values, ⟨o, ho', hc'.1⟩, fun a' e2 => by cases e2; exact ⟨o, ho', hc'.2.1⟩, Calls.callWith_builtin rfl (PySem.evalArgs_none ?_)⟩
    refine call_meetsIn PySem.F.slot_dict_values hD.typeIs PySem.F.entry_dict_values (PySem.F.args_dict_values_1 _) (meets_dict_values (mixKind X.prog X.w) a hs) ⟨⟨vs, hD⟩, ?_⟩
    have I3 : Inv X pins σ H2 { s1 with heap := s1.heap.push { cls := .type "dict_values", data := .fields #[.ref a] } } := I2.kept (t' := s1.toks) fun b o e => Heap.get?_push_of_some _ e
    obtain ⟨vs3, rel3, _, hd3⟩ := frz_at I3.hok e
    have hlen3 := rel3.length
    refine wpAny_pyIter_values (d := a) ⟨_, Heap.get?_push_size _ rfl, rfl, rfl⟩ hd3 ?_
    refine ⟨_, [(s1.heap.push { cls := .type "dict_values", data := .fields #[.ref a] }).objs.size], _, _, H2, rfl, I3.kept (t' := s1.toks) fun b o e => Heap.get?_push_of_some _ e, turn_vals ob a _ kvs (Nat.ne_of_lt hd3.lt_size), ⟨_, Heap.get?_push_size _ rfl, rfl, by rw [hlen3]; rfl⟩, fun b hb => ?_, q⟩
    rw [List.mem_singleton] at hb
    subst hb
    exact I3.fpOk (Nat.le_refl _) (I3.hok.fresh (Nat.le_refl _))
  rcases hrd with e | ⟨ob, e⟩
  · obtain ⟨z, hs, vs, rel, o, es, ep, ho, r⟩ := (show ObjOk X.prog X.w H1 s1.heap a (.dK kvs) from I1.hok a _ e)
    have I2 : Inv X pins σ (upd H1 a (.frz o (.dK kvs))) { s1 with heap := s1.heap, toks := s1.toks } := I1.write (t' := s1.toks) (by rw [e]; exact True.intro) (.inl rfl) (fun b u _ q => q) ⟨o, ho⟩ ⟨ho, z, hs, vs, rel, o, es, ep, ho, r⟩
    exact key _ o I2 upd_same (q o _ upd_same (same_upd rm_same rm_self))
  · exact key _ ob I1 e (q ob _ e rm_same)
theorem ivals {o : Expr} {to : TE} {apos cpos : Pos} (ho : QE X o to) (hbase : attributeBase o "values" X.env (eval o X.env) = eval o X.env := by rfl) (hline : (apos.endLine == cpos.line) = true := by rfl) : QI X tg (.Call (.Attribute o "values" apos) [] [] cpos) (iVals to) := .mk (pi_vals ho.un hbase hline)
variable {g : TG} {tt : TT} {te : TE} {acc : Addr} {σ0 : L2.St} {H0 : Hp} {Q : Hp → Prop}
theorem comp_vals {ob : Obj} {a : Addr} {kvs : List (Key × V)} (Pv : Nat → List V → L2.St → Hp → Prop) (h0 : Pv 0 [] σ0 H0) (hl : ∀ i ys σ H, Pv i ys σ H → H a = some (.frz ob (.dK kvs)))
    (hs : ∀ i ys k x σ H, kvs[i]? = some (k, x) → i < kvs.length → Pv i ys σ H → g x σ H fun σ2 H2 => tt σ2 H2 fun b H3 => if b = true then te σ2 H3 (CPost Pv acc kvs.length i σ2) else CSkip Pv kvs.length i σ2 H3)
    (hd : ∀ ys σ H, Pv kvs.length ys σ H → Q H) : CompW (Itw ob a kvs) g tt te acc σ0 H0 Q := by
  refine ⟨fun i m σ H => m = kvs.length - i ∧ i ≤ kvs.length ∧ ∃ ys, Pv i ys σ H, ⟨kvs.length, by simp, Nat.zero_le _, [], h0⟩, ?_⟩
  rintro i m σ H ⟨rfl, hi, ys, p⟩
  have q := hl i ys σ H p
  by_cases hlt : i < kvs.length
  · refine .inr ⟨⟨q, hlt⟩, fun x H1 y => ?_⟩
    obtain ⟨e, k, hk⟩ := y
    subst e
    have z := hs i ys k x σ _ hk hlt p
    unfold CPost CSkip at z
    exact z
  · have e : i = kvs.length := by lia
    subst e
    exact .inl ⟨⟨q, Nat.le_refl _⟩, hd ys σ H p⟩
end
end L3
namespace L3
open PySem PySem.Spec PyProof.Rows L2
section
variable {X : Cx}
end
end L3
namespace L3
open PySem PySem.Spec PyProof.Rows L2
section
variable {X : Cx}
end
end L3
namespace HS
open PySem PySem.W PyProof.Rows
noncomputable def Good (r : Nat → Nat) (n : Nat) {α : Type} : KasT α → (α → Prop) → Prop
  | .ret a, Q => Q a
  | .ask i j k, Q => i < n ∧ j < n ∧ Good r n (k (decide (r i < r j))) Q
section
variable {r : Nat → Nat} {n : Nat}
theorem Good.mono {α : Type} {Q Q' : α → Prop} (hq : ∀ a, Q a → Q' a) : ∀ {t : KasT α}, Good r n t Q → Good r n t Q'
  | .ret a, h => hq a h
  | .ask _ _ k, h => ⟨h.1, h.2.1, Good.mono hq (t := k _) h.2.2⟩
theorem Good.bind {α β : Type} {f : α → KasT β} {Q : β → Prop} : ∀ {t : KasT α}, Good r n t (fun a => Good r n (f a) Q) → Good r n (t.bind f) Q
  | .ret _, h => h
  | .ask _ _ k, h => ⟨h.1, h.2.1, Good.bind (t := k _) h.2.2⟩
theorem Good.yes {α : Type} {Q : α → Prop} {t u : KasT α} {c : Prop} [Decidable c] (hc : c) (h : Good r n t Q) : Good r n (if decide c = true then t else u) Q := by
  rw [if_pos (decide_eq_true hc)]; exact h
theorem Good.no {α : Type} {Q : α → Prop} {t u : KasT α} {c : Prop} [Decidable c] (hc : ¬ c) (h : Good r n u Q) : Good r n (if decide c = true then t else u) Q := by
  rw [if_neg (by simpa using hc)]; exact h
noncomputable def R (r : Nat → Nat) (p : Array Nat) (i : Nat) : Nat := r (p.getD i 0)
theorem R_of {p q : Array Nat} {i j : Nat} (h : p[i]? = q[j]?) : R r p i = R r q j := by
  unfold R
  rw [Array.getD_eq_getD_getElem?, Array.getD_eq_getD_getElem?, h]
noncomputable def Ar (n : Nat) (p : Array Nat) : Prop := p.toList.Perm (List.range n)
theorem Ar.size {p : Array Nat} (h : Ar n p) : p.size = n := by
  have := h.length_eq
  rw [List.length_range, Array.length_toList] at this
  exact this
theorem Ar.lt {p : Array Nat} (h : Ar n p) (h0 : 0 < n) (i : Nat) : p.getD i 0 < n := by
  rw [Array.getD_eq_getD_getElem?]
  by_cases hi : i < p.size
  · rw [getElem?_pos p i hi]
    have : p[i] ∈ p.toList := by simp
    exact List.mem_range.mp (h.mem_iff.mp this)
  · rw [getElem?_neg p i hi]; exact h0
theorem Ar.perm {p q : Array Nat} (h : Ar n p) (e : q.Perm p) : Ar n q := (Array.perm_iff_toList_perm.mp e).trans h
noncomputable def Srt (r : Nat → Nat) (p : Array Nat) (m : Nat) : Prop := ∀ i j, i ≤ j → j < m → R r p i ≤ R r p j
noncomputable def Dsc (r : Nat → Nat) (p : Array Nat) (m : Nat) : Prop := ∀ i j, i ≤ j → j < m → R r p j ≤ R r p i
theorem R_rev {p : Array Nat} {i j : Nat} (hj : j ≤ p.size) (k : Nat) : R r (kas_rev p i j) k = if i ≤ k ∧ k < j then R r p (i + j - 1 - k) else R r p k := by
  have e := getElem?_mirror_all (i := i) hj k
  by_cases c : i ≤ k ∧ k < j
  · rw [if_pos c] at e ⊢; exact R_of e
  · rw [if_neg c] at e ⊢; exact R_of e
theorem R_rev_eq {p : Array Nat} {i j : Nat} (hj : j ≤ p.size) (he : ∀ k, i ≤ k → k < j → R r p k = R r p (j - 1)) (k : Nat) : R r (kas_rev p i j) k = R r p k := by
  rw [R_rev hj]
  by_cases c : i ≤ k ∧ k < j
  · rw [if_pos c, he _ (by lia) (by lia), he k c.1 c.2]
  · rw [if_neg c]
theorem rev_perm (p : Array Nat) (i j : Nat) : (kas_rev p i j).Perm p := mirror_perm _ _ _ _
theorem good_asc {p : Array Nat} {Q : Nat → Prop} (hp : Ar n p) (h0 : 0 < n) : ∀ (f m : Nat), 1 ≤ m → Srt r p m →
    (∀ k, m ≤ k → k ≤ m + f → Srt r p k → (k = m + f ∨ R r p k < R r p (k - 1)) → Q k) → Good r n (kas_asc p f m) Q
  | 0, m, _, hs, h => h m (Nat.le_refl _) (Nat.le_refl _) hs (.inl rfl)
  | f + 1, m, h1, hs, h => by
    refine ⟨hp.lt h0 _, hp.lt h0 _, ?_⟩
    by_cases c : R r p m < R r p (m - 1)
    · refine Good.yes c ?_
      exact h m (Nat.le_refl _) (by lia) hs (.inr c)
    · refine Good.no c ?_
      refine good_asc hp h0 f (m + 1) (by lia) (fun i j a b => ?_) fun k a b => h k (by lia) (by lia) |> fun z s o => z s (o.imp (fun e => by lia) id)
      by_cases e : j = m
      · subst e
        by_cases e2 : i = j
        · rw [e2]; exact Nat.le_refl _
        · have := hs i (j - 1) (by lia) (by lia)
          lia
      · exact hs i j a (by lia)
noncomputable def Alk (r : Nat → Nat) (p : Array Nat) (m q : Nat) : Prop := ∀ k, m - (q + 1) ≤ k → k < m → R r p k = R r p (m - 1)
theorem good_desc {Q : Array Nat × Nat × Nat → Prop} (h0 : 0 < n) : ∀ (f : Nat) (p : Array Nat) (m q : Nat), Ar n p → q + 1 ≤ m → m + f ≤ n → Dsc r p m → Alk r p m q →
    (∀ p' m' q', Ar n p' → q' + 1 ≤ m' → m ≤ m' → m' ≤ m + f → Dsc r p' m' → Alk r p' m' q' → Q (p', m', q')) → Good r n (kas_desc f p m q) Q
  | 0, p, m, q, hp, a, _, hd, he, h => h p m q hp a (Nat.le_refl _) (Nat.le_refl _) hd he
  | f + 1, p, m, q, hp, a, b, hd, he, h => by
    have hz := hp.size
    refine ⟨hp.lt h0 _, hp.lt h0 _, ?_⟩
    by_cases c : R r p m < R r p (m - 1)
    · refine Good.yes c ?_
      have hd' : Dsc r p (m + 1) := fun i j x y => by
        by_cases e : j = m
        · subst e
          by_cases e2 : i = j
          · rw [e2]; exact Nat.le_refl _
          · have := hd i (j - 1) (by lia) (by lia)
            lia
        · exact hd i j x (by lia)
      by_cases g : q > 0
      · rw [if_pos g]
        have hr : ∀ k, R r (kas_rev p (m - (q + 1)) m) k = R r p k := R_rev_eq (by lia) he
        refine good_desc h0 f _ (m + 1) 0 (hp.perm (rev_perm _ _ _)) (by lia) (by lia) (fun i j x y => ?_) (fun k x y => ?_) fun p' m' q' x1 x2 x3 x4 => h p' m' q' x1 x2 (by lia) (by lia)
        · rw [hr, hr]; exact hd' i j x y
        · have : k = m + 1 - 1 := by lia
          rw [this]
      · rw [if_neg g]
        refine good_desc h0 f _ (m + 1) 0 hp (by lia) (by lia) hd' (fun k x y => ?_) fun p' m' q' x1 x2 x3 x4 => h p' m' q' x1 x2 (by lia) (by lia)
        have : k = m + 1 - 1 := by lia
        rw [this]
    · refine Good.no c ?_
      refine ⟨hp.lt h0 _, hp.lt h0 _, ?_⟩
      by_cases c2 : R r p (m - 1) < R r p m
      · refine Good.yes c2 ?_
        exact h p m q hp a (Nat.le_refl _) (by lia) hd he
      · refine Good.no c2 ?_
        refine good_desc h0 f _ (m + 1) (q + 1) hp (by lia) (by lia) (fun i j x y => ?_) (fun k x y => ?_) fun p' m' q' x1 x2 x3 x4 => h p' m' q' x1 x2 (by lia) (by lia)
        · by_cases e : j = m
          · subst e
            by_cases e2 : i = j
            · rw [e2]; exact Nat.le_refl _
            · have := hd i (j - 1) (by lia) (by lia)
              lia
          · exact hd i j x (by lia)
        · rw [show m + 1 - 1 = m by lia]
          by_cases e : k = m
          · rw [e]
          · have := he k (by lia) (by lia)
            lia
theorem good_tail3 {p : Array Nat} {m : Nat} {Q : Nat × Array Nat → Prop} (hp : Ar n p) (h0 : 0 < n) (h1 : 1 ≤ m) (hm : m ≤ n) (hd : Dsc r p m)
    (h : ∀ k p', 1 ≤ k → k ≤ n → Ar n p' → Srt r p' k → Q (k, p')) : Good r n (kas_tail3 m n p) Q := by
  have hz := hp.size
  refine Good.bind (good_asc (hp.perm (rev_perm _ _ _)) h0 (n - m) m h1 (fun i j a b => ?_) fun k a b s _ => h k _ (by lia) (by lia) (hp.perm (rev_perm _ _ _)) s)
  rw [R_rev (by lia), R_rev (by lia), if_pos ⟨Nat.zero_le _, by lia⟩, if_pos ⟨Nat.zero_le _, b⟩]
  exact hd _ _ (by lia) (by lia)
theorem good_descPart {p : Array Nat} {m : Nat} {Q : Nat × Array Nat → Prop} (hp : Ar n p) (h0 : 0 < n) (hm : m + 1 ≤ n) (hd : Dsc r p (m + 1))
    (h : ∀ k p', 1 ≤ k → k ≤ n → Ar n p' → Srt r p' k → Q (k, p')) : Good r n (kas_descPart m n p) Q := by
  refine Good.bind (good_desc h0 _ p (m + 1) 0 hp (by lia) (by lia) hd (fun k x y => ?_) fun p' m' q' x1 x2 x3 x4 x5 x6 => ?_)
  · have : k = m + 1 - 1 := by lia
    rw [this]
  · have hz := x1.size
    show Good r n (if q' > 0 then _ else _) Q
    by_cases g : q' > 0
    · rw [if_pos g]
      have hr : ∀ k, R r (kas_rev p' (m' - (q' + 1)) m') k = R r p' k := R_rev_eq (by lia) x6
      exact good_tail3 (m := m') (x1.perm (rev_perm _ _ _)) h0 (by lia) (by lia) (fun i j x y => by rw [hr, hr]; exact x5 i j x y) h
    · rw [if_neg g]
      exact good_tail3 (m := m') x1 h0 (by lia) (by lia) x5 h
theorem good_count {p : Array Nat} {Q : Nat × Array Nat → Prop} (hp : Ar n p) (h0 : 0 < n)
    (h : ∀ k p', 1 ≤ k → k ≤ n → Ar n p' → Srt r p' k → Q (k, p')) : Good r n (kas_count n p) Q := by
  have hz := hp.size
  refine Good.bind (good_asc hp h0 (n - 1) 1 (Nat.le_refl _) (fun i j a b => by rw [show i = j by lia]; exact Nat.le_refl _) fun m a b s o => ?_)
  by_cases e : m = n
  · rw [if_pos (by rw [e]; exact beq_self_eq_true _)]
    exact h m p a (by lia) hp s
  · rw [if_neg (by simpa using e)]
    have hl : R r p m < R r p (m - 1) := o.resolve_left (by lia)
    by_cases g : m > 1
    · rw [if_pos g]
      refine ⟨hp.lt h0 _, hp.lt h0 _, ?_⟩
      by_cases c : R r p 0 < R r p (m - 1)
      · refine Good.yes c ?_
        exact h m p a (by lia) hp s
      · refine Good.no c ?_
        have al : ∀ k, 0 ≤ k → k < m → R r p k = R r p (m - 1) := fun k _ hk => by
          have a1 := s 0 k (by lia) hk
          have a2 := s k (m - 1) (by lia) (by lia)
          lia
        have hr : ∀ k, R r (kas_rev p 0 m) k = R r p k := R_rev_eq (by lia) al
        refine good_descPart (hp.perm (rev_perm _ _ _)) h0 (by lia) (fun i j x y => ?_) h
        rw [hr, hr]
        by_cases e3 : j = m
        · subst e3
          by_cases e2 : i = j
          · rw [e2]; exact Nat.le_refl _
          · rw [al i (by lia) (by lia)]; lia
        · rw [al i (by lia) (by lia), al j (by lia) (by lia)]; exact Nat.le_refl _
    · rw [if_neg g]
      refine good_descPart hp h0 (by lia) (fun i j x y => ?_) h
      by_cases e2 : i = j
      · rw [e2]; exact Nat.le_refl _
      · have ei : i = m - 1 := by lia
        have ej : j = m := by lia
        rw [ei, ej]; lia
theorem good_place {p : Array Nat} {k : Nat} {Q : Nat → Prop} (hp : Ar n p) (h0 : 0 < n) (hs : Srt r p k)
    (h : ∀ l, l ≤ k → (∀ i, i < l → R r p i ≤ R r p k) → (∀ i, l ≤ i → i < k → R r p k < R r p i) → Q l) :
    ∀ (f a b : Nat), a ≤ b → b ≤ k → b - a ≤ f → (∀ i, i < a → R r p i ≤ R r p k) → (∀ i, b ≤ i → i < k → R r p k < R r p i) → Good r n (kas_place p k f a b) Q
  | 0, a, b, x, y, z, u, v => h a (by lia) u fun i c => v i (by lia)
  | f + 1, a, b, x, y, z, u, v => by
    unfold kas_place
    by_cases g : a ≥ b
    · rw [if_pos g]; exact h a (by lia) u fun i c => v i (by lia)
    · rw [if_neg g]
      refine ⟨hp.lt h0 _, hp.lt h0 _, ?_⟩
      by_cases c : R r p k < R r p ((a + b) / 2)
      · refine Good.yes c ?_
        refine good_place hp h0 hs h f a ((a + b) / 2) (by lia) (by lia) (by lia) u fun i d e => ?_
        have := hs ((a + b) / 2) i d e
        lia
      · refine Good.no c ?_
        refine good_place hp h0 hs h f ((a + b) / 2 + 1) b (by lia) (by lia) (by lia) (fun i d => ?_) v
        have := hs i ((a + b) / 2) (by lia) (by lia)
        lia
theorem good_bin {Q : Array Nat → Prop} (h0 : 0 < n) (h : ∀ p, Ar n p → Srt r p n → Q p) : ∀ (f : Nat) (p : Array Nat) (k : Nat), k + f = n → Ar n p → Srt r p k → Good r n (kas_bin f p k) Q
  | 0, p, k, e, hp, hs => h p hp (by rw [← e]; exact hs)
  | f + 1, p, k, e, hp, hs => by
    have hz := hp.size
    refine Good.bind (good_place hp h0 hs (fun l hl u v => ?_) k 0 k (Nat.zero_le _) (Nat.le_refl _) (by lia) (fun i c => by lia) fun i c d => by lia)
    have hb : ∀ i, R r (bubble p k (k - l)) i = if i = l then R r p k else if l < i ∧ i ≤ k then R r p (i - 1) else R r p i := fun i => by
      have e := getElem?_bubble (xs := p) (src := k) (by lia) (k - l) (by lia) i
      rw [show k - (k - l) = l by lia] at e
      by_cases c : i = l
      · rw [if_pos c] at e ⊢; exact R_of e
      · rw [if_neg c] at e ⊢
        by_cases d : l < i ∧ i ≤ k
        · rw [if_pos d] at e ⊢; exact R_of e
        · rw [if_neg d] at e ⊢; exact R_of e
    refine good_bin h0 h f _ (k + 1) (by lia) (hp.perm (bubble_perm _ _ _)) fun i j a b => ?_
    rw [hb, hb]
    by_cases c1 : i = l
    · rw [if_pos c1]
      by_cases c2 : j = l
      · rw [if_pos c2]; exact Nat.le_refl _
      · rw [if_neg c2, if_pos ⟨by lia, by lia⟩]
        exact Nat.le_of_lt (v (j - 1) (by lia) (by lia))
    · rw [if_neg c1]
      by_cases d1 : l < i ∧ i ≤ k
      · rw [if_pos d1, if_neg (by lia), if_pos ⟨by lia, by lia⟩]
        exact hs _ _ (by lia) (by lia)
      · rw [if_neg d1]
        by_cases c2 : j = l
        · rw [if_pos c2]; exact u i (by lia)
        · rw [if_neg c2]
          by_cases d2 : l < j ∧ j ≤ k
          · rw [if_pos d2]; exact hs _ _ (by lia) (by lia)
          · rw [if_neg d2]; exact hs _ _ (by lia) (by lia)
theorem good_sort {Q : Array Nat → Prop} (h0 : 0 < n) (h : ∀ p, Ar n p → Srt r p n → Q p) : Good r n (kas_sort n) Q := by
  refine Good.bind (good_count (p := List.toArray (List.range n)) (.refl _) h0 fun k p' a b hp s => ?_)
  by_cases c : k < n
  · rw [if_pos c]
    exact good_bin h0 h _ p' _ (by lia) hp (by rw [show max k 1 = k by lia]; exact s)
  · rw [if_neg c]
    exact h p' hp (by rw [show n = k by lia]; exact s)
theorem Good.wp {α : Type} {Q : α → Prop} {G : α → Shared → Prop} {cmp : Nat → Nat → (Bool → Shared → Prop) → Shared → Prop} {s : Shared} (hq : ∀ a, Q a → G a s)
    (hc : ∀ i j (C : Bool → Shared → Prop), i < n → j < n → C (decide (r i < r j)) s → cmp i j C s) : ∀ {t : KasT α}, Good r n t Q → t.kasWp cmp G s
  | .ret a, h => hq a h
  | .ask _ _ k, h => hc _ _ _ h.1 h.2.1 (Good.wp hq hc (t := k _) h.2.2)
end
end HS
namespace HS
open PySem PySem.W PyProof.Rows
theorem lex_irr : ∀ x : List Int, HT.lexLt x x = false
  | [] => rfl
  | a :: x => by rw [HT.lexLt_cons, if_pos rfl]; exact lex_irr x
theorem lex_trans : ∀ {x y z : List Int}, HT.lexLt x y = true → HT.lexLt y z = true → HT.lexLt x z = true
  | [], [], _, h, _ => by cases h
  | _ :: _, [], _, h, _ => by cases h
  | [], _ :: _, [], _, h => by cases h
  | _ :: _, _ :: _, [], _, h => by cases h
  | [], _ :: _, _ :: _, _, _ => rfl
  | a :: x, b :: y, c :: z, h, g => by
    rw [HT.lexLt_cons] at h g ⊢
    by_cases e : a = b
    · rw [if_pos e] at h
      by_cases e2 : b = c
      · rw [if_pos e2] at g; rw [if_pos (e.trans e2)]; exact lex_trans h g
      · rw [if_neg e2] at g; rw [if_neg (by lia)]; have := of_decide_eq_true g; exact decide_eq_true (by lia)
    · rw [if_neg e] at h
      have h := of_decide_eq_true h
      by_cases e2 : b = c
      · rw [if_neg (by lia)]; exact decide_eq_true (by lia)
      · rw [if_neg e2] at g; have := of_decide_eq_true g; rw [if_neg (by lia)]; exact decide_eq_true (by lia)
theorem lex_tot : ∀ {x y : List Int}, HT.lexLt x y = false → HT.lexLt y x = false → x = y
  | [], [], _, _ => rfl
  | [], _ :: _, h, _ => by cases h
  | _ :: _, [], _, h => by cases h
  | a :: x, b :: y, h, g => by
    rw [HT.lexLt_cons] at h g
    by_cases e : a = b
    · subst e; rw [if_pos rfl] at h g; rw [lex_tot h g]
    · rw [if_neg e] at h; rw [if_neg (fun q => e q.symm)] at g
      have h := of_decide_eq_false h
      have g := of_decide_eq_false g
      lia
noncomputable def rk (L : List (List Int)) (i : Nat) : Nat := L.countP fun x => HT.lexLt x (L.getD i [])
theorem countP_lt {α : Type} {p q : α → Bool} : ∀ {l : List α} {a : α}, (∀ x ∈ l, p x = true → q x = true) → a ∈ l → p a = false → q a = true → l.countP p < l.countP q
  | x :: l, a, h, ha, hp, hq => by
    have hl : l.countP p ≤ l.countP q := List.countP_mono_left fun y hy => h y (.tail _ hy)
    rw [List.countP_cons, List.countP_cons]
    rcases List.mem_cons.mp ha with rfl | ha
    · rw [hp, hq]; simp only [Bool.false_eq_true, if_false, if_true]; lia
    · have ih := countP_lt (fun y hy => h y (.tail _ hy)) ha hp hq
      have hx := h x (.head _)
      cases hpx : p x with
      | false => simp only [Bool.false_eq_true, if_false]; lia
      | true => rw [hx hpx]; lia
theorem rk_lt {L : List (List Int)} {i j : Nat} (hi : i < L.length) (hj : j < L.length) : decide (rk L i < rk L j) = HT.lexLt (L.getD i []) (L.getD j []) := by
  have mi : L.getD i [] ∈ L := by rw [List.getD_eq_getElem?_getD, List.getElem?_eq_getElem hi]; exact List.getElem_mem hi
  have mj : L.getD j [] ∈ L := by rw [List.getD_eq_getElem?_getD, List.getElem?_eq_getElem hj]; exact List.getElem_mem hj
  have up : ∀ {x y : List Int}, x ∈ L → HT.lexLt x y = true → L.countP (fun z => HT.lexLt z x) < L.countP (fun z => HT.lexLt z y) := fun hx h =>
    countP_lt (fun z _ hz => lex_trans hz h) hx (lex_irr _) h
  cases c : HT.lexLt (L.getD i []) (L.getD j []) with
  | true => exact decide_eq_true (up mi c)
  | false =>
    refine decide_eq_false ?_
    unfold rk
    cases d : HT.lexLt (L.getD j []) (L.getD i []) with
    | true => have := up mj d; lia
    | false => rw [lex_tot c d]; lia
section
variable {prog : Program} {w : World} {A : Around} {E : Value → Shared → Prop} {s : Shared}
noncomputable def Asks (prog : Program) (w : World) (A : Around) (vs : List Value) (r : Nat → Nat) (s : Shared) : Prop :=
  wpAny (model prog w) A (keyKind' vs.toArray) (fun κ s' => s' = s ∧ ∀ i j (C : Bool → Shared → Prop), i < vs.length → j < vs.length → C (decide (r i < r j)) s → kas_ask prog w A κ vs i j C s) (fun _ _ => False) s
noncomputable def outOf (vs : List Value) (p : Array Nat) : List Value := p.toList.map fun i => vs.getD i Value.none
theorem out_short (vs : List Value) (h : vs.length < 2) : ((vs.toArray.zip vs.toArray).map (·.2)) = (outOf vs (List.toArray (List.range vs.length))).toArray := by
  unfold outOf
  cases vs with
  | nil => simp
  | cons v vs =>
    cases vs with
    | nil => simp
    | cons _ _ => exact absurd h (by simp)
theorem lsort {a : Addr} {vs : List Value} {n : Nat} {P : PySem.Fin → Shared → Prop} {r : Nat → Nat} (at_a : s.heap.get? a = some (seqObj "list" vs.toArray n)) (few : vs.length < 64)
    (asks : 2 ≤ vs.length → ∀ h', (∀ b o, b ≠ a → s.heap.get? b = some o → h'.get? b = some o) → Asks prog w A vs r { s with heap := h' })
    (fin : ∀ p, Ar vs.length p → Srt r p vs.length → P (.done (.ret .none)) { s with heap := sortedHeap s.heap a vs (outOf vs p).toArray }) : wpAny (model prog w) A (Builtin.«list.sort» ⟨[.ref a], []⟩) P E s := by
  have la : a < s.heap.objs.size := Heap.lt_size at_a
  have sl : vs.length ≤ sizeLine := by rw [sizeLine_eq]; lia
  obtain ⟨e1, at1⟩ : ∃ e1, (s.heap.update a (Obj.mapSeq fun _ => #[])).get? a = some (seqObj "list" #[] e1) := ⟨_, get?_update_seq at_a fun _ => #[]⟩
  have at6 : (((s.heap.update a (Obj.mapSeq fun _ => #[])).push (seqObj "tuple" vs.toArray 0)).push (seqObj "list" #[] 0)).get? a = some (seqObj "list" #[] e1) :=
    Heap.get?_push_of_some _ (Heap.get?_push_of_some _ at1)
  have old : ∀ b o, b ≠ a → s.heap.get? b = some o → (((s.heap.update a (Obj.mapSeq fun _ => #[])).push (seqObj "tuple" vs.toArray 0)).push (seqObj "list" #[] 0)).get? b = some o := fun b o hb q =>
    Heap.get?_push_of_some _ (Heap.get?_push_of_some _ (by rw [Heap.get?_update_ne _ _ _ _ hb]; exact q))
  have len : ∀ p, Ar vs.length p → (outOf vs p).toArray.size ≤ sizeLine + 1 := fun p hp => by
    rw [List.size_toArray]; unfold outOf; rw [List.length_map, Array.length_toList, hp.size]; lia
  rw [list_sort_plain]
  refine wpAny_bind (listItems_at at_a rfl (wpAny_bind (listUpdate_at at_a rfl ?_ (by rw [List.size_toArray]; exact sl) (Nat.zero_le _))))
  refine wpAny_bind (seqEpoch_at at1 rfl (wpAny_bind (wpAny_newTuple (wpAny_bind (wpAny_newList (wpAny_holding ?_) (Nat.zero_le _))) (by simpa using sl))))
  show wpAny (model prog w) A _ P E { s with heap := ((s.heap.update a (Obj.mapSeq fun _ => #[])).push (seqObj "tuple" vs.toArray 0)).push (seqObj "list" #[] 0) }
  dsimp only
  by_cases two : vs.toArray.size < 2
  · rw [if_pos two, if_pos two]
    have two' : vs.length < 2 := by simpa using two
    refine wpAny_bind (wpAny_pure ?_)
    rw [StateT.run_pure]
    refine wpAny_bind (wpAny_pure ?_)
    have hp : Ar vs.length (List.toArray (List.range vs.length)) := .refl _
    have out : (arrOf (SortSt.mk' general' (vs.toArray.zip vs.toArray) #[] 7 none)).map (·.2) = (outOf vs (List.toArray (List.range vs.length))).toArray := by
      show ((vs.toArray.zip vs.toArray).map (·.2)) = _
      exact out_short vs two'
    dsimp only
    refine wpAny_bind (seqEpoch_at at6 rfl ?_)
    rw [out]
    refine wpAny_bind (listUpdate_at at6 rfl ?_ (Nat.zero_le _) (len _ hp))
    simp only [bne_self_eq_false, Bool.false_eq_true, if_false]
    exact wpAny_pure (fin _ hp fun i j x y => by rw [show i = j by lia]; exact Nat.le_refl _)
  · rw [if_neg two, if_neg two]
    have two' : 2 ≤ vs.length := by
      rw [List.size_toArray] at two; lia
    refine wpAny_bind (wpAny_mono (asks two' _ old) (fun κ s' hk => ?_) fun _ _ x => x.elim)
    obtain ⟨rfl, hk⟩ := hk
    refine wpAny_bind (wpAny_mono (kat_run (ks := vs) (vs := vs) (κ := κ)
      (Q := fun st s' => s' = { s with heap := ((s.heap.update a (Obj.mapSeq fun _ => #[])).push (seqObj "tuple" vs.toArray 0)).push (seqObj "list" #[] 0) } ∧ ∃ p, Ar vs.length p ∧ Srt r p vs.length ∧ arrOf st = p.map (kas_item (vs.toArray.zip vs.toArray)) ∧ failedOf st = none)
      (G := fun p s' => s' = { s with heap := ((s.heap.update a (Obj.mapSeq fun _ => #[])).push (seqObj "tuple" vs.toArray 0)).push (seqObj "list" #[] 0) } ∧ Ar vs.length p ∧ Srt r p vs.length)
      rfl two' few (fun p st s' _ b c d => ⟨d.1, p, d.2.1, d.2.2, b, c⟩) (Good.wp (n := vs.length) (r := r) (Q := fun p => Ar vs.length p ∧ Srt r p vs.length) (fun p q => ⟨rfl, q⟩) hk (good_sort (by lia) fun p x y => ⟨x, y⟩))) ?_ fun _ _ x => x)
    rintro ⟨⟨⟩, st⟩ s' ⟨rfl, p, hp, hs, ha, hf⟩
    dsimp only
    refine wpAny_bind (seqEpoch_at at6 rfl ?_)
    rw [kat_snds rfl ha]
    refine wpAny_bind (listUpdate_at at6 rfl ?_ (Nat.zero_le _) (len p hp))
    rw [hf]
    simp only [bne_self_eq_false, Bool.false_eq_true, if_false]
    exact wpAny_pure (fin p hp hs)
theorem gsorted {l : Addr} {vs : List Value} {Q : Value → Shared → Prop} {r : Nat → Nat} (hl : s.heap.IsList l vs.toArray) (few : vs.length < 64)
    (asks : 2 ≤ vs.length → ∀ h', (∀ b o, s.heap.get? b = some o → h'.get? b = some o) → Asks prog w A.in1.in1 vs r { s with heap := h' })
    (fin : ∀ p, Ar vs.length p → Srt r p vs.length → Q (.ref (s.heap.objs.size + 1)) { s with heap := sortedAll s.heap vs (outOf vs p).toArray }) : wpAny (model prog w) A (call (.builtin "sorted") [.ref l]) Q E s := by
  have sl : vs.length ≤ sizeLine := by rw [sizeLine_eq]; lia
  refine Calls.call_function_entry kind_sorted plain_sorted entry_sorted (args_sorted1 _) ?_
  unfold Builtin.«sorted»
  refine wpAny_bind (m := checkCount "sorted" 1 1 _) (wpAny_pure (wpAny_bind (collect_list hl (wpAny_bind (wpAny_newList ?_ sl)) sl)))
  have z : ((s.heap.push (seqObj "list" #[] 0)).update s.heap.objs.size (Obj.mapSeq (· ++ vs.toArray))).objs.size = s.heap.objs.size + 1 := by
    rw [Heap.size_update, size_push']
  have at1 : (((s.heap.push (seqObj "list" #[] 0)).update s.heap.objs.size (Obj.mapSeq (· ++ vs.toArray))).push (seqObj "list" vs.toArray 0)).get? (s.heap.objs.size + 1) = some (seqObj "list" vs.toArray 0) := by
    rw [← z]; exact Heap.get?_push_size _ rfl
  have old : ∀ b o, s.heap.get? b = some o → (((s.heap.push (seqObj "list" #[] 0)).update s.heap.objs.size (Obj.mapSeq (· ++ vs.toArray))).push (seqObj "list" vs.toArray 0)).get? b = some o := fun b o q => by
    have lb : b < s.heap.objs.size := Heap.lt_size q
    exact Heap.get?_push_of_some _ (by rw [Heap.get?_update_ne _ _ _ _ (Nat.ne_of_lt lb)]; exact Heap.get?_push_of_some _ q)
  show wpAny _ _ _ _ _ { s with heap := ((s.heap.push (seqObj "list" #[] 0)).update s.heap.objs.size (Obj.mapSeq (· ++ vs.toArray))).push (seqObj "list" vs.toArray 0) }
  rw [z]
  refine wpAny_bind (wpAny_holding (wpAny_call_entry slot_list_sort ⟨_, at1, rfl⟩ entry_list_sort (lsort at1 few (fun t h' k => asks t h' fun b o q => k b o (Nat.ne_of_lt (Nat.lt_succ_of_lt (Heap.lt_size q))) (old b o q)) fun p x y => ⟨_, rfl, ?_⟩) (args_list_sort _)))
  exact wpAny_pure ⟨_, rfl, fin p x y⟩
inductive F2 {α β : Type} (R : α → β → Prop) : List α → List β → Prop where
  | nil : F2 R [] []
  | cons {a : α} {b : β} {as : List α} {bs : List β} : R a b → F2 R as bs → F2 R (a :: as) (b :: bs)
theorem F2.length_eq {α β : Type} {R : α → β → Prop} {as : List α} {bs : List β} (h : F2 R as bs) : as.length = bs.length := by
  induction h with
  | nil => rfl
  | cons _ _ ih => rw [List.length_cons, List.length_cons, ih]
theorem F2.imp {α β : Type} {R S : α → β → Prop} (f : ∀ a b, R a b → S a b) {as : List α} {bs : List β} (h : F2 R as bs) : F2 S as bs := by
  induction h with
  | nil => exact .nil
  | cons r _ ih => exact .cons (f _ _ r) ih
noncomputable def TupIs (h : Heap) (v : Value) (ns : List Int) : Prop := ∃ a its, v = .ref a ∧ IsTup h a its ∧ IntsAre its.toList ns
theorem TupIs.kept {h h' : Heap} {v : Value} {ns : List Int} (t : TupIs h v ns) (k : ∀ b o, h.get? b = some o → h'.get? b = some o) : TupIs h' v ns := by
  obtain ⟨a, its, rfl, ⟨o, q, c⟩, i⟩ := t
  exact ⟨a, its, rfl, ⟨o, k a o q, c⟩, i⟩
theorem lex_ints {b fin : Bool} {x y : Nat} {Q : Bool → Shared → Prop} (hf : fin = decide (x < y)) : ∀ {vs ws : List Value} {ns ms : List Int} (i : Nat), IntsAre vs ns → IntsAre ws ms → ns.length + y = ms.length + x → Q (HT.lexLt ns ms) s → KatLex prog w A b fin Q (vs.zip ws) i s
  | _, _, _, _, i, .nil, hw, hl, h => by
    rw [HT.lex_end .nil hw (by simp) hl, ← hf] at h
    rw [List.zip_nil_left]
    exact kat_nil h
  | _, _, _, _, i, .cons a t hv, .nil, hl, h => by
    rw [HT.lex_end (.cons a t hv) .nil (by simp) hl, ← hf] at h
    rw [List.zip_nil_right]
    exact kat_nil h
  | _, _, _, _, i, .cons a t hv, .cons c u hw, hl, h => by
    rw [List.zip_cons_cons]
    rw [HT.lexLt_cons] at h
    refine kat_cons (wpAny_eqBool_int ?_)
    by_cases e : a = c
    · rw [if_pos e] at h
      rw [show (a == c) = true by simpa using e]
      exact kat_yes (lex_ints hf (i + 1) hv hw (by simp only [List.length_cons] at hl; lia) h)
    · rw [if_neg e] at h
      rw [show (a == c) = false by simpa using e]
      refine kat_no ?_
      cases b && i == 0 with
      | true => exact oneLt_int h
      | false => exact kat_one _ _ (PyProof.Rows.lt_int h)
theorem tups_of {h : Heap} : ∀ {vs : List Value} {L : List (List Int)}, F2 (TupIs h) vs L → (∀ x ∈ L, x ≠ []) → ∃ fs, KatTups h vs fs ∧ fs.length = vs.length ∧ ∀ v ∈ fs, ∃ n t, v = Value.int n t
  | _, _, .nil, _ => ⟨[], .nil, rfl, fun v hv => by cases hv⟩
  | _, _, .cons t r, hn => by
    obtain ⟨fs, f1, f2, f3⟩ := tups_of r fun x hx => hn x (.tail _ hx)
    obtain ⟨a, its, rfl, ⟨o, q, c, n, d⟩, i⟩ := t
    generalize hi : its.toList = il at i
    cases i with
    | nil => exact absurd rfl (hn _ (.head _))
    | cons k u i =>
      refine ⟨.int k u :: fs, KatTups.cons q c d ?_ f1, by simp [f2], fun v hv => ?_⟩
      · rw [← Array.getElem?_toList, hi]; rfl
      · rcases List.mem_cons.mp hv with rfl | hv
        · exact ⟨_, _, rfl⟩
        · exact f3 v hv
theorem tup_getD {h : Heap} : ∀ {vs : List Value} {L : List (List Int)}, F2 (TupIs h) vs L → ∀ i, i < vs.length → TupIs h (vs.getD i .none) (L.getD i [])
  | _, _, .cons t _, 0, _ => t
  | _, _, .cons _ r, i + 1, hi => by simpa using tup_getD r i (by simpa using hi)
theorem asks_tups {vs : List Value} {L : List (List Int)} (t : F2 (TupIs s.heap) vs L) (hn : ∀ x ∈ L, x ≠ []) (two : 2 ≤ vs.length) : Asks prog w A vs (rk L) s := by
  obtain ⟨fs, f1, f2, f3⟩ := tups_of t hn
  have hl : vs.length = L.length := t.length_eq
  refine kat_kind (T := .type "int") f1 (by lia) (fun v hv => ?_) rfl ⟨rfl, fun i j C hi hj hc => ?_⟩
  · obtain ⟨n, t, rfl⟩ := f3 v hv
    exact Looks.of_pure rfl
  · rw [rk_lt (by lia) (by lia)] at hc
    unfold kas_ask
    obtain ⟨a, xs, ea, ⟨oa, qa, ca, na, da⟩, ia⟩ := tup_getD t i hi
    obtain ⟨b, ys, eb, ⟨ob, qb, cb, nb, db⟩, ib⟩ := tup_getD t j hj
    rw [ea, eb]
    refine kat_lt qa da qb db (lex_ints (x := xs.size) (y := ys.size) rfl 0 ia ib ?_ hc)
    have := ia.length
    have := ib.length
    simp only [Array.length_toList] at *
    lia
theorem sorted_tups {l : Addr} {vs : List Value} {L : List (List Int)} {Q : Value → Shared → Prop} (hl : s.heap.IsList l vs.toArray) (few : vs.length < 64) (t : F2 (TupIs s.heap) vs L) (hn : ∀ x ∈ L, x ≠ [])
    (fin : ∀ p, Ar vs.length p → Srt (rk L) p vs.length → Q (.ref (s.heap.objs.size + 1)) { s with heap := sortedAll s.heap vs (outOf vs p).toArray }) : wpAny (model prog w) A (call (.builtin "sorted") [.ref l]) Q E s :=
  gsorted hl few (fun two h' k => asks_tups (t.imp fun _ _ q => q.kept k) hn two) fin
end
theorem srt_pairs {α : Type} {zs : List (α × List Int)} {p : Array Nat} (d : α × List Int) (hp : Ar zs.length p) (hs : Srt (rk (zs.map (·.2))) p zs.length) :
    (p.toList.map fun i => zs.getD i d).Perm zs ∧ (p.toList.map fun i => zs.getD i d).Pairwise fun a b => HT.lexLt b.2 a.2 = false := by
  have hz := hp.size
  constructor
  · refine (hp.map _).trans (List.Perm.of_eq ?_)
    refine List.ext_getElem (by simp) fun i h1 h2 => ?_
    simp [List.getD_eq_getElem?_getD, h2]
  · rw [List.pairwise_iff_getElem]
    intro i j hi hj hij
    simp only [List.length_map, Array.length_toList] at hi hj
    have gi : ∀ k (hk : k < p.size), p.toList[k]'(by simpa using hk) = p.getD k 0 := fun k hk => by simp [Array.getD, hk]
    simp only [List.getElem_map]
    rw [gi i hi, gi j hj]
    have h0 : 0 < zs.length := by lia
    have li := hp.lt h0 i
    have lj := hp.lt h0 j
    have le : rk (zs.map (·.2)) (p.getD i 0) ≤ rk (zs.map (·.2)) (p.getD j 0) := hs i j (by lia) (by lia)
    have q := rk_lt (L := zs.map (·.2)) (i := p.getD j 0) (j := p.getD i 0) (by simpa using lj) (by simpa using li)
    rw [decide_eq_false (by lia)] at q
    have sn : ∀ k, k < zs.length → (zs.map (·.2)).getD k [] = (zs.getD k d).2 := fun k hk => by simp [List.getD_eq_getElem?_getD, hk]
    rw [sn _ lj, sn _ li] at q
    exact q.symm
end HS
namespace L3
open PySem PySem.Spec PyProof.Rows L2
section
variable {X : Cx}
noncomputable def rSortT (K : PySem.W.Frag) : List V → Hp → VK → Prop := fun xs H Q => ∃ (p : Addr) (zs : List (Addr × List Int)), xs = [.ref p] ∧ SqL K H p (zs.map fun z => V.ref z.1) ∧ zs.length < 64 ∧ (∀ z ∈ zs, SqT K H z.1 (z.2.map V.int) ∧ z.2 ≠ []) ∧
  ∀ (q : Addr) (H' : Hp) (ys : List (Addr × List Int)), H q = none → Same H H' → H' q = some (.lst (ys.map fun z => V.ref z.1)) → (∀ b, b ≠ q → H' b = H b) → ys.Perm zs → ys.Pairwise (fun a b => HT.lexLt b.2 a.2 = false) → Q (.ref q) H'
theorem vals_rf : ∀ {α : Type} {f : α → Addr} (zs : List α), Vals (zs.map fun z => V.ref (f z)) (zs.map fun z => Value.ref (f z))
  | _, _, [] => .nil
  | _, _, _ :: zs => .cons rfl (vals_rf zs)
theorem vals_rf_inv : ∀ {α : Type} {f : α → Addr} {zs : List α} {us : List Value}, Vals (zs.map fun z => V.ref (f z)) us → us = zs.map fun z => Value.ref (f z)
  | _, _, [], _, .nil => rfl
  | _, _, _ :: _, _, .cons h t => by cases h; rw [vals_rf_inv t]; rfl
theorem call_sortT : CallR X (.builtin "sorted") (rSortT X.K) := by
  intro pins s σ H xs us Q I rv h
  obtain ⟨p, zs, rfl, hp, hn, ht, q⟩ := h
  obtain ⟨u, rfl, ru⟩ := vals1 rv
  cases ru
  obtain ⟨its, r, pl, hz⟩ := I.list hp
  have hi := vals_rf_inv r
  subst hi
  have tt : HS.F2 (HS.TupIs s.heap) (zs.map fun z => Value.ref z.1) (zs.map (·.2)) := by
    clear hp r pl hz hn q rv
    induction zs with
    | nil => exact .nil
    | cons z zs ih =>
      refine .cons ?_ (ih fun y hy => ht y (.tail _ hy))
      obtain ⟨its, r1, p1, _⟩ := I.tuple (ht z (.head _)).1
      exact ⟨_, _, rfl, p1, by simpa using intsAre_of r1⟩
  have len : (zs.map fun z => Value.ref z.1).length = zs.length := List.length_map ..
  refine HS.sorted_tups pl.isList (by lia) tt (fun x hx => ?_) fun pp a1 a2 => ?_
  · obtain ⟨z, hz, rfl⟩ := List.mem_map.mp hx
    exact (ht z hz).2
  · rw [len] at a1 a2
    obtain ⟨b1, b2⟩ := HS.srt_pairs (0, []) a1 a2
    obtain ⟨e, he⟩ := sortedAll_at s.heap (zs.map fun z => Value.ref z.1) (HS.outOf (zs.map fun z => Value.ref z.1) pp).toArray
    have hf : H (s.heap.objs.size + 1) = none := I.hok.fresh (Nat.le_succ _)
    have out : HS.outOf (zs.map fun z => Value.ref z.1) pp = (pp.toList.map fun i => zs.getD i (0, [])).map fun z => Value.ref z.1 := by
      unfold HS.outOf
      rw [List.map_map]
      refine List.map_congr_left fun i hi => ?_
      have : i < zs.length := List.mem_range.mp (a1.mem_iff.mp hi)
      simp [List.getD_eq_getElem?_getD, this]
    have ln : (pp.toList.map fun i => zs.getD i (0, [])).length = zs.length := b1.length_eq
    refine ⟨.ref (s.heap.objs.size + 1), _, I.laid (t' := s.toks) (o := .lst ((pp.toList.map fun i => zs.getD i (0, [])).map fun z => V.ref z.1)) (fun b ob q => sortedAll_old q) (Nat.le_succ _)
      ⟨by rw [List.length_map, ln]; exact Nat.le_of_lt (Nat.lt_of_lt_of_le hn (by decide)), _, e, vals_rf (f := fun z : Addr × List Int => z.1) _, by rw [← out]; exact he⟩, rfl, q _ _ _ hf (same_new hf) upd_same (fun b hb => upd_ne hb) b1 b2⟩
theorem fSortT (K : PySem.W.Frag) (hK : X.K = K := by rfl) : RCall X (.builtin "sorted") (rSortT K) := by subst hK; exact .mk call_sortT
end
end L3
namespace HS
open PySem PySem.W PyProof.Rows
section
variable {prog : Program} {w : World} {A : Around} {E : Value → Shared → Prop} {s : Shared}
end
end HS
namespace L3
open PySem PySem.Spec PyProof.Rows L2
section
variable {X : Cx}
end
end L3
namespace L3
open PySem PySem.Spec PyProof.Rows PySem.W L2
section
variable {X : Cx}
end
end L3
namespace L3
open PySem PySem.Spec PyProof.Rows L2
section
variable {X : Cx}
noncomputable def rNeN : R2 := fun x y H Q => ∃ (a b : Addr) (xs : List V), x = .ref a ∧ y = .ref b ∧ H a = some (.lst xs) ∧ H b = some (.lst []) ∧ Q (.bl (!xs.isEmpty)) H
theorem op_neN (hu : X.A.units + 150 < cLine) : OpR X (compareOp .NotEq) rNeN := by
  intro pins s σ H x y v u Q I rx ry h
  obtain ⟨a, b, xs, rfl, rfl, ha, hb, q⟩ := h
  cases xs with
  | nil => exact op_neD hu pins s σ H _ _ v u Q I rx ry ⟨.lst [], .lst [], .lst ha .nil, .lst hb .nil, rfl, rfl, by decide, q⟩
  | cons z zs =>
    cases rx
    cases ry
    obtain ⟨its, r, pl, hz⟩ := I.list (SqL.of (K := X.K) ha)
    obtain ⟨its2, r2, pl2, hz2⟩ := I.list (SqL.of (K := X.K) hb)
    have h1 := r.length
    have h2 := r2.length
    exact SeqAt.RcNeAt.lists_lengths pl.isList pl2.isList (by rw [List.size_toArray, List.size_toArray, ← h1, ← h2]; simp) (by lia) X.prog X.w X.xe _ ⟨.bl true, H, I, rfl, q⟩
theorem rNeNil {k : Nat} {A : Around} (hr : Room k A) (hA : X.A = A := by rfl) : ROp X (compareOp .NotEq) rNeN := .mk (op_neN (by rw [hA]; exact hu_n hr))
end
end L3
namespace L3
open PySem PySem.Spec PyProof.Rows L2
section
variable {P : Program} {w : World} {K : PySem.W.Frag} {mg : Str → Option Value} {base : Heap}
end
section
variable {X : Cx}
end
end L3
namespace L3
open PySem PySem.Spec PyProof.Rows L2
section
variable {X : Cx}
end
section
variable {P : Program} {w : World} {K : PySem.W.Frag} {mg : Str → Option Value} {base : Heap}
end
end L3
namespace L3
open PySem PySem.Spec PyProof.Rows L2
end L3
namespace L3
open PySem PySem.Spec PyProof.Rows L2
end L3
namespace L3
open PySem PySem.Spec PyProof.Rows L2
section
variable {prog : Program} {w : World} {A : Around}
variable {R : Result → Shared → Prop} {it : Addr} {fp wr : List Addr} {n : Nat} {P : Nat → Value → Prop} {St : Nat → Heap → Prop} {kw : List (Str × Value)}
end
section
variable {X : Cx}
end
end L3
namespace L3
open PySem PySem.Spec PySem.Calls PyProof.Rows L2
section
open Builtin Builtin.ObjectAttr Builtin.Getset_descriptor
noncomputable def ExcAt (a C : Addr) (h : Heap) : Prop := ∃ o, h.get? a = some o ∧ o.cls = .ref C
section
variable {K : PySem.W.Frag} {x D : Addr}
theorem exc_ty {M : Model} {h : Heap} (e : ExcAt x D h) : PySem.W.Looks M h (typeOf (.ref x)) (.ref D) := by
  obtain ⟨o, e1, e2⟩ := e
  rw [← e2]
  exact (PySem.W.Looks.ld e1).andThen .now
variable {prog : Program} {w : World} {A : Around} {E : Value → Shared → Prop} {s : Shared}
end
end
section
variable {X : Cx}
end
end L3
namespace L3
open PySem PySem.Spec PyProof.Rows L2
theorem objok_there {P : Program} {w : World} {H : Hp} {h : Heap} {a : Addr} {o : HO} (x : ObjOk P w H h a o) : ∃ ob, h.get? a = some ob := by
  cases o with
  | lst xs => obtain ⟨_, its, n, _, e⟩ := x; exact ⟨_, e⟩
  | tup xs => obtain ⟨_, its, _, ob, e, _⟩ := x; exact ⟨_, e⟩
  | dK kvs => obtain ⟨_, _, vs, _, ob, es, ep, e, _⟩ := x; exact ⟨_, e⟩
  | dT kvs => obtain ⟨_, _, xs, _, ob, es, ep, e, _⟩ := x; exact ⟨_, e⟩
  | set S n => obtain ⟨ob, es, ep, t, e, _⟩ := x; exact ⟨_, e⟩
  | ins C dx fs => obtain ⟨_, _, _, e, _⟩ := x; exact ⟨_, e⟩
  | own y => exact x
  | xd fs => obtain ⟨mA, ⟨od, es, ep, e, _⟩, _⟩ := x; exact ⟨_, e⟩
  | rng lo hi => obtain ⟨t, u, v, e⟩ := x; exact ⟨_, e⟩
  | frz ob u => obtain ⟨e, _⟩ := x; exact ⟨_, e⟩
  | tbl ps => exact ⟨_, x⟩
  | met f y => exact ⟨_, x⟩
  | ext φ => exact x.2.1
noncomputable def Kept (fs : List Addr) (H' : Hp) (h h1 B : Heap) : Prop := ∀ b o, h1.get? b = some o → b ∉ fs → ((∃ u, H' b = some u) ∨ ∃ o', h.get? b = some o') → B.get? b = some o
theorem fly_un {P : Program} {w : World} {fs : List Addr} {H H' : Hp} {h h1 h2 B : Heap} (u : Un fs [] H H' h h1) (hok : HOk P w H' h1) (hfr : ∀ b ∈ fs, H' b = none ∧ ∃ o, h1.get? b = some o ∧ ∀ vs, o.data ≠ .fields vs)
    (hB : Kept fs H' h h1 B) (st : B.StaysIn h2) (up : h1.UpToSlots h2) : Un fs [] H H' h h2 ∧ HOk P w H' h2 ∧ Kept fs H' h h2 B := by
  have kept : ∀ b o, h1.get? b = some o → b ∉ fs → ((∃ u, H' b = some u) ∨ ∃ o', h.get? b = some o') → h2.get? b = some o := fun b o e nf z => st _ _ (hB b o e nf z)
  have nfr : ∀ b v, H' b = some v → b ∉ fs := fun b v e z => by rw [(hfr b z).1] at e; cases e
  refine ⟨⟨fun b o q n hb hx => kept b o (u.keep b o q n hb hx) hb (.inr ⟨o, q⟩), fun b o q n hb hx => ?_, u.free, fun b o q hx => ?_, u.tups, u.frzs, u.tbls⟩, fun a o e => ?_, fun b o e nf z => ?_⟩
  · obtain ⟨sl, e⟩ := u.slot b o q n hb hx
    obtain ⟨_, o1, ho1, hd⟩ := hfr b hb
    rw [e] at ho1
    cases ho1
    obtain ⟨sl', e'⟩ := up b _ e hd
    exact ⟨sl', e'⟩
  · obtain ⟨o', e⟩ := u.there b o q hx
    by_cases hb : b ∈ fs
    · obtain ⟨_, o1, ho1, hd⟩ := hfr b hb
      obtain ⟨sl', e'⟩ := up b o1 ho1 hd
      exact ⟨_, e'⟩
    · exact ⟨o', kept b o' e hb (.inr ⟨o, q⟩)⟩
  · refine (hok a o e).stay (fun b v hb q => kept b v q ?_ (.inl ?_)) (fun _ q => q) fun _ _ q => q
    · rcases hb with rfl | hb
      · exact nfr _ _ e
      · exact nfr _ _ hb
    · rcases hb with rfl | hb
      · exact ⟨_, e⟩
      · exact ⟨_, hb⟩
  · obtain ⟨o1, e1⟩ : ∃ o1, h1.get? b = some o1 := by
      rcases z with ⟨v, e'⟩ | ⟨o', e'⟩
      · exact objok_there (hok b v e')
      · exact u.there b o' e' (by simp)
    have := kept b o1 e1 nf z
    rw [e] at this
    cases this
    exact hB b _ e1 nf z
noncomputable def CXE (P : Program) (w : World) : CXT := fun outer H s E e s' => ∃ (ea t C : Addr) (B : Heap) (H' : Hp), e = .ref ea ∧ s'.os = s.os ∧ AllBare s'.gens ∧ Un (frs outer) [] H H' s.heap s'.heap ∧ HOk P w H' s'.heap ∧
  s.heap.get? ea = none ∧ H' ea = none ∧ Heap.FlyingW B outer ea (.ref C) (.ref t) s'.heap ∧ Kept (frs outer) H' s.heap s'.heap B ∧ E (.ref C) none H'
section
variable {X : Cx} {pins : List (Addr × Obj)} {σ : St} {H : Hp} {s : Shared}
theorem inv_frames (I : Inv X pins σ H s) : ∀ b ∈ X.fs, H b = none ∧ ∃ o, s.heap.get? b = some o ∧ ∀ vs, o.data ≠ .fields vs := fun b hb => by
  obtain ⟨_, o0, h0, _⟩ := I.ok.funs.mem hb
  exact ⟨I.base.free b o0 h0 (I.ok.frf b hb) fun z => I.ok.exfs b z hb, (I.funs.mem hb).2⟩
theorem inv_stack (I : Inv X pins σ H s) : ∀ b ∈ frs X.stack, H b = none ∧ ∃ o, s.heap.get? b = some o ∧ ∀ vs, o.data ≠ .fields vs := fun b hb => ⟨I.stkFree b hb, (I.stack.mem hb).2⟩
end
section
variable {P : Program} {w : World} {K : PySem.W.Frag} {mg : Str → Option Value} {base : Heap} {N : List Str} {qual : Str} {scope : Scope} {f : Addr} {cd : Value} {A : Around} {outer : List Env} {s : Shared} {H : Hp} {E : XK}
theorem raise_leaves {pins : List (Addr × Obj)} {σ : St} {H2 : Hp} {s2 : Shared} {h' : Heap} {e C : Addr} {us : List Value} (I : Inv (cxOf (CXE P w) P w K mg base N qual scope f cd A outer s H E) pins σ H2 s2) (hm : Heap.MadeExcOf s2.heap h' e (.ref C) us) (q : E (.ref C) none H2) :
    (cxOf (CXE P w) P w K mg base N qual scope f cd A outer s H E).xe (.ref e) { s2 with heap := h' } := by
  have hL : ∀ b, b ∉ frs outer → ((∃ u, H2 b = some u) ∨ ∃ o', s.heap.get? b = some o') → b ∉ frs (envOfC qual scope s.heap.objs.size f cd :: outer) := fun b nf z hb => by
    rcases List.mem_cons.mp (I.stkSub b hb) with e | hb
    · rcases z with ⟨u, z⟩ | ⟨o, z⟩
      · rw [e] at z
        rw [show H2 _ = none from I.free] at z
        cases z
      · rw [e] at z
        exact absurd (Heap.lt_size z) (Nat.lt_irrefl _)
    · exact nf hb
  refine wpAny_leaves_madeW (base := PySem.W.hideAll s2.heap (frs (envOfC qual scope s.heap.objs.size f cd :: outer))) (h := s2.heap) I.ok.frames rfl (fun b o q => PySem.W.of_hideAll _ q) (PySem.W.funFrames_hide I.stack (fun env he a hf => List.mem_filterMap.mpr ⟨env, he, hf⟩)) hm fun h3 t x1 x2 x3 x4 => ?_
  obtain ⟨un, hok, hB⟩ := fly_un (h2 := h3) (show Un (frs outer) [] H H2 s.heap s2.heap from I.base) (show HOk P w H2 s2.heap from I.hok) (inv_frames I) (fun b o e nf z => PySem.W.hideAll_get _ e (hL b nf z)) x1.1 ((Heap.UpToSlots.of_keeps hm.keeps).trans x4)
  refine ⟨e, t, C, _, H2, rfl, I.os, I.bare, un, hok, ?_, ?_, x1, hB, q⟩
  · cases z : s.heap.get? e with
    | none => rfl
    | some o =>
      obtain ⟨o', e'⟩ := I.base.there e o z (fun z => nomatch z)
      rw [hm.new] at e'; cases e'
  · cases z : H2 e with
    | none => rfl
    | some v =>
      obtain ⟨o, e'⟩ := objok_there (I.hok e v z)
      rw [hm.new] at e'; cases e'
theorem passE {E' : XK} (hE : ∀ c H', E' c none H' → E c none H') : Passes (CXE P w) (cxOf (CXE P w) P w K mg base N qual scope f cd A outer s H E) E' := by
  intro pins σ H1 s1 e s' I h
  obtain ⟨ea, t, C, B, H', rfl, os, bare, un, hok, new, fre, fly, hB, q⟩ := h
  have I' := I.call' os un hok bare (fun b z => absurd z (by simp))
  have hL : ∀ b, b ∉ frs outer → ((∃ u, H' b = some u) ∨ ∃ o', s.heap.get? b = some o') → b ∉ frs (envOfC qual scope s.heap.objs.size f cd :: outer) := fun b nf z hb => by
    rcases List.mem_cons.mp (I.stkSub b hb) with e | hb
    · rcases z with ⟨u, z⟩ | ⟨o, z⟩
      · rw [e] at z
        rw [show H' _ = none from I'.free] at z
        cases z
      · rw [e] at z
        exact absurd (Heap.lt_size z) (Nat.lt_irrefl _)
    · exact nf hb
  refine wpAny_leaves_onW I.ok.frames rfl fly fun h3 x1 x2 => ?_
  obtain ⟨un2, hok2, hB2⟩ := fly_un (h2 := h3) (show Un (frs outer) [] H H' s.heap s'.heap from I'.base) hok (inv_frames I') (fun b o e nf z => hB b o e (hL b nf z) (z.elim .inl fun ⟨o', z⟩ => .inr (I.base.there b o' z (fun z => nomatch z)))) x1.1 x2
  refine ⟨ea, t, C, B, H', rfl, os.trans I.os, bare, un2, hok2, ?_, fre, x1, hB2, hE _ _ q⟩
  cases z : s.heap.get? ea with
  | none => rfl
  | some o =>
    obtain ⟨o', e'⟩ := I.base.there ea o z (fun z => nomatch z)
    rw [new] at e'; cases e'
structure ErrK (K : PySem.W.Frag) (mg : Str → Option Value) (x : Str) (C : Addr) : Prop where
  at_ : mg x = some (.ref C)
  own : PySem.W.excIn K C [.type "ValueError", .type "Exception", .type "BaseException", .type "object"] "ValueError.__new__" = true
noncomputable def tRaise (E : XK) (C : Addr) (t : TA) : TS := fun _ σ H => t σ H fun vs H1 => vs.length ≤ sizeLine ∧ E (.ref C) none H1
theorem ps_raise {x : Str} {C : Addr} {e0 : Expr} {es : List Expr} {t : TA} {np cpos pos : Pos} (R : ErrK K mg x C) (hg : Gl (cxOf (CXE P w) P w K mg base N qual scope f cd A outer s H E) x) (ha : PA (cxOf (CXE P w) P w K mg base N qual scope f cd A outer s H E) (e0 :: es) t)
    (hdb : (x == ("__debug__" : Str)) = false := by decide) (he : starEach (e0 :: es) (cxOf (CXE P w) P w K mg base N qual scope f cd A outer s H E).env = (false, eval e0 (cxOf (CXE P w) P w K mg base N qual scope f cd A outer s H E).env) :: starEach es (cxOf (CXE P w) P w K mg base N qual scope f cd A outer s H E).env := by rfl)
    (hpl : (backTo cpos (starEach es (cxOf (CXE P w) P w K mg base N qual scope f cd A outer s H E).env)).any (·.1) = false := by rfl) :
    PS (cxOf (CXE P w) P w K mg base N qual scope f cd A outer s H E) (.Raise (some (.Call (.Name x np) (e0 :: es) [] cpos)) none pos) (tRaise E C t) := by
  intro pins s1 σ H1 D I h
  have hown := R.own
  unfold PySem.W.excIn at hown
  split at hown
  case h_2 => cases hown
  rename_i dd cdd sl ho
  split at hown
  case h_2 => cases hown
  rename_i C' bm k0 k1 k2 k3 nn k5 hmr hs
  simp only [Bool.and_eq_true, beq_iff_eq, Bool.not_eq_true'] at hown
  obtain ⟨⟨⟨⟨⟨rfl, rfl⟩, hdel⟩, ht⟩, hok⟩, hni⟩ := hown
  obtain ⟨nm, bs, mro, ns, qn, hd, sn, sub, ab, col, del⟩ := cdd
  dsimp only at hmr hdel hok hni
  subst hmr hdel
  have hsl : sl = #[k0, k1, k2, k3, some (.builtin "ValueError.__new__"), k5] := by
    obtain ⟨l⟩ := sl
    simp only at hs
    rw [hs]
  subst hsl
  have hC := I.ok.mod.kin _ _ ho
  have T := PySem.W.tail_of_in I.ok.mod.kin ht
  have F := PySem.F.excBase_ValueError
  refine wpAny_Raise_call_subU (C := C') (nm := nm) (q := qn) (N := ns) (bs := bs) (bm := bm) (hdct := hd) (sn := sn) (sub := sub) (ab := ab) (col := col) (dd := dd) (k0 := k0) (k1 := k1) (k2 := k2) (k3 := k3) (k5 := k5) F F.hasB F (mN := base.nsMap ns) (T.hasType F.hasBase) (I.ok.hd rfl)
    (by rw [he]; show (false || (backTo cpos (starEach es (cxOf (CXE P w) P w K mg base N qual scope f cd A outer s H E).env)).any (·.1)) = false; rw [hpl]; rfl) (PySem.W.nsMap_none_of_in I.ok.mod.kin hok hni) (ld_glob I hg R.at_ ⟨rfl, ?_⟩ hdb)
  have hpa := ha cpos pins s1 σ H1 _ I h
  rw [he] at hpa ⊢
  refine Calls.evalArgs_plain (wpAny_mono hpa (fun us s2 ⟨vs, H2, I2, rv, hl, q⟩ => ⟨rfl, ?_, I2.bk _ _ hC, (Heap.Ns.of_isNs (PySem.W.isNs_of_in I.ok.mod.kin hok)).keeps I2.bk, T.keeps I2.bk, fun h' e hm => raise_leaves I2 hm q⟩) fun _ _ y => y)
  rw [← rv.length]; exact hl
end
end L3
namespace L3
open PySem PySem.Spec PyProof.Rows L2
noncomputable abbrev TX := Ends → (St → Value → Hp → Prop) → St → Hp → Prop
noncomputable def Flown (X : Cx) (pins : List (Addr × Obj)) (EX : St → Value → Hp → Prop) (e : Value) (s' : Shared) : Prop :=
  ∃ (σ1 : St) (H1 : Hp) (s1 : Shared), Inv X pins σ1 H1 s1 ∧ CXE X.prog X.w X.stack H1 s1 (fun c _ H' => EX σ1 c H') e s'
noncomputable def PX (X : Cx) (sts : List Stmt) (t : TX) : Prop := ∀ (pins : List (Addr × Obj)) (s : Shared) (σ : St) (H : Hp) (D : Ends) (EX : St → Value → Hp → Prop), Inv X pins σ H s → t D EX σ H →
  wpAny (model X.prog X.w) X.A (execs sts X.env) (SP X pins D) (Flown X pins EX) s
section
variable {X : Cx}
theorem ld_globA {pins : List (Addr × Obj)} {s : Shared} {σ : St} {H : Hp} {A : Around} {E : Value → Shared → Prop} {x : Str} {u : Value} {pos : Pos} {Q : Value → Shared → Prop} (I : Inv X pins σ H s) (hg : Gl X x) (hm : X.mg x = some u) (h : Q u s)
    (hdb : (x == ("__debug__" : Str)) = false := by decide) : wpAny (model X.prog X.w) A (eval (.Name x pos) X.env) Q E s :=
  Calls.Name_function_global I.ok.kind hg (Calls.loadGlobal_global (by rw [I.ok.glob]; exact I.ok.mod.glob.keeps I.bk) hm h) hdb
theorem PA.nox {es : List Expr} {t : TA} {pins : List (Addr × Obj)} {s : Shared} {σ : St} {H : Hp} {Q : List V → Hp → Prop} {E : Value → Shared → Prop} (h : PA X.nox es t) (pos : Pos) (I : Inv X pins σ H s) (q : t σ H Q) :
    wpAny (model X.prog X.w) X.A (spliced (backTo pos (starEach es X.env))) (AP X pins σ Q) E s :=
  wpAny_mono (h pos pins s σ H Q (I.wish _) q) (fun _ _ ⟨vs, H', I', r, q⟩ => ⟨vs, H', I'.unwish, r, q⟩) fun _ _ z => False.elim z
noncomputable abbrev marked (X : Cx) (e : Addr) : Cx := { X with A := X.A.mark (some (.ref e)), calm := false, xe := fun _ _ => False }
theorem inv_marked {pins : List (Addr × Obj)} {σ : St} {H : Hp} {s : Shared} (I : Inv X pins σ H s) (e : Addr) : Inv (marked X e) pins σ H s :=
  ⟨⟨I.ok.mod, I.ok.kind, I.ok.glob, I.ok.blt, I.ok.above, I.ok.inj, I.ok.has, I.ok.cab, fun z => Bool.noConfusion z, I.ok.frames, I.ok.stk, I.ok.exf, I.ok.bs, I.ok.bsz, I.ok.noex, I.ok.exfs, I.ok.funs, I.ok.frf⟩, I.os, I.bare, I.base, I.loc, I.cell, I.free, I.freeC, I.pin, I.hok, I.len⟩
theorem inv_unmarked {pins : List (Addr × Obj)} {σ : St} {H : Hp} {s : Shared} {e : Addr} (ok : X.Ok) (I : Inv (marked X e) pins σ H s) : Inv X pins σ H s :=
  ⟨ok, I.os, I.bare, I.base, I.loc, I.cell, I.free, I.freeC, I.pin, I.hok, I.len⟩
end
end L3
namespace L3
open PySem PySem.Spec PyProof.Rows L2
noncomputable def backV : Value → V
  | .none => .non
  | .bool b => .bl b
  | .int i _ => .int i
  | .str x _ => .str x
  | .bytes b _ => .byt b
  | .float b _ => .flt b
  | .ref a => .ref a
  | .type n => .ty n
  | _ => .non
theorem backV_is {v : V} {u : Value} (h : L2.RelV v u) : backV u = v := by
  cases v with
  | non => cases h; rfl
  | bl b => cases h; rfl
  | int i => obtain ⟨t, rfl⟩ := h; rfl
  | str x => obtain ⟨t, rfl⟩ := h; rfl
  | byt b => obtain ⟨t, rfl⟩ := h; rfl
  | flt b => obtain ⟨t, rfl⟩ := h; rfl
  | ref a => cases h; rfl
  | ty n => cases h; rfl
theorem relV_one {v v' : V} {u : Value} (h : L2.RelV v u) (h' : L2.RelV v' u) : v = v' := (backV_is h).symm.trans (backV_is h')
open Classical in
/-- what a value at H is, held against d -/
noncomputable def eOf (H : Hp) (d : D) (y : Value) : Bool := if h : ∃ e, ∃ v, L2.RelV v y ∧ Rep H v e then (Classical.choose h).eqv d else false
theorem eOf_is {H : Hp} {d e : D} {y : Value} {v : V} (r : L2.RelV v y) (g : Rep H v e) : eOf H d y = e.eqv d := by
  unfold eOf
  have h : ∃ e, ∃ v, L2.RelV v y ∧ Rep H v e := ⟨e, v, r, g⟩
  rw [dif_pos h]
  obtain ⟨v', r', g'⟩ := Classical.choose_spec h
  have := relV_one r r'
  subst this
  rw [g'.inj g]
theorem any_eOf {H : Hp} {d : D} : ∀ {xs : List V} {us : List Value} {ds : List D}, Vals xs us → Reps H xs ds → us.any (eOf H d) = ds.any fun e => e.eqv d
  | _, _, _, .nil, .nil => rfl
  | _, _, _, .cons r t, .cons g gs => by rw [List.any_cons, List.any_cons, eOf_is r g, any_eOf t gs]
theorem mem_eOf {H : Hp} {s : Shared} {P : Program} {w : World} (hok : HOk P w H s.heap) {A : Around} {n : Nat} {d : D} {x : V} {z : Value} (rz : L2.RelV x z) (gx : Rep H x d) (pd : d.pure = true) (hu : A.units + n < cLine) :
    ∀ {xs : List V} {us : List Value} {ds : List D}, Vals xs us → Reps H xs ds → pures ds = true → deps ds ≤ n → ∀ u ∈ us, SeqAt.EqAt A s u z (eOf H d u)
  | _, _, _, .nil, .nil, _, _ => fun u hu => by cases hu
  | _, _, _, .cons r t, .cons g gs, p, dp => fun u' hu' => by
    rw [pures, Bool.and_eq_true] at p
    rw [deps] at dp
    rcases List.mem_cons.mp hu' with rfl | hu'
    · rw [eOf_is r g]; exact eqAt_n hok n A (by lia) g gx r rz p.1 pd hu
    · exact mem_eOf hok rz gx pd hu t gs p.2 (by lia) u' hu'
section
variable {X : Cx}
noncomputable def rInD (K : PySem.W.Frag) (neg : Bool) (n : Nat) : R2 := fun x y H Q => ∃ p xs d ds, y = .ref p ∧ SqL K H p xs ∧ Rep H x d ∧ Reps H xs ds ∧ d.pure = true ∧ pures ds = true ∧ deps ds ≤ n ∧ Q (.bl (if neg then !(ds.any fun e => e.eqv d) else (ds.any fun e => e.eqv d))) H
theorem op_inD {n : Nat} (hu : X.A.units + 1 + n < cLine) : OpR X (compareOp .In) (rInD X.K false n) := by
  intro pins s σ H x y v u Q I rx ry h
  obtain ⟨p, xs, d, ds, rfl, hq, gx, gs, pd, ps, dp, q⟩ := h
  cases ry
  obtain ⟨its, r, pl, hz⟩ := I.list hq
  refine SeqAt.in_listAt (eOf H d) pl.isList (fun w hw => mem_eOf I.hok (A := X.A.in1) rx gx pd hu r gs ps dp w (by simpa using hw)) ⟨.bl _, H, I, rfl, ?_⟩
  rw [show its.toArray.any (eOf H d) = its.any (eOf H d) by simp, any_eOf r gs]
  exact q
theorem op_notInD {n : Nat} (hu : X.A.units + 1 + n < cLine) : OpR X (compareOp .NotIn) (rInD X.K true n) := by
  intro pins s σ H x y v u Q I rx ry h
  obtain ⟨p, xs, d, ds, rfl, hq, gx, gs, pd, ps, dp, q⟩ := h
  cases ry
  obtain ⟨its, r, pl, hz⟩ := I.list hq
  refine SeqAt.notIn_listAt (eOf H d) pl.isList (fun w hw => mem_eOf I.hok (A := X.A.in1) rx gx pd hu r gs ps dp w (by simpa using hw)) ⟨.bl _, H, I, rfl, ?_⟩
  rw [show its.toArray.any (eOf H d) = its.any (eOf H d) by simp, any_eOf r gs]
  exact q
theorem rInnD {k : Nat} {A : Around} (K : PySem.W.Frag) (hr : Room k A) (hA : X.A = A := by rfl) (hK : X.K = K := by rfl) : ROp X (compareOp .In) (rInD K false 100) := by subst hK; exact .mk (op_inD (by rw [hA]; have := hu_n hr; lia))
theorem rNotInnD {k : Nat} {A : Around} (K : PySem.W.Frag) (hr : Room k A) (hA : X.A = A := by rfl) (hK : X.K = K := by rfl) : ROp X (compareOp .NotIn) (rInD K true 100) := by subst hK; exact .mk (op_notInD (by rw [hA]; have := hu_n hr; lia))
end
end L3
namespace L3
open PySem PySem.Spec PyProof.Rows L2
theorem Fd.calE {P : Program} {w : World} {K : PySem.W.Frag} {mg : Str → Option Value} {base : Heap} {x : Str} {st : Stmt} {f : Addr} {N ps : List Str} {k : Nat} {sp : Sp} (F : Fd K mg x st f) (S : FnScope N ps (defScope st))
    (hb : ∀ (kV doc pm : Value) (an : Option Addr) (cdv ct : Value) (us : List Value), us.length = ps.length → bindArgs (PySem.W.fnOf x x (defArgs st) (defBody st) (defScope st) .none kV doc pm an cdv ct) ⟨us, []⟩ = pure (ps.zip us))
    (len : ∀ vs H Q E, sp vs H Q E → vs.length = ps.length)
    (hbody : ∀ (cdv : Value) (A : Around) (outer : List Env) (s : Shared) (H : Hp) (vs : List V) (Q : VK) (E : XK), Room k (A.deeper (envOfC x (defScope st) s.heap.objs.size f cdv)) → sp vs H Q E →
      ∃ t, QSs (cxOf (CXE P w) P w K mg base N x (defScope st) f cdv A outer s H E) (defBody st) t ∧ t { nx := fun _ H' => Q .non H', rt := Q } (start N vs) H) : Cal P w K mg base (CXE P w) (k + 1) x sp := by
  obtain ⟨⟨fd, F1⟩, F2⟩ := F
  refine ⟨f, fd, ps, ?_, F2, F1.kp, F1.binds hb⟩
  obtain ⟨oc, od, kV, doc, pm, an, cdv, ct, osl, rfl, lk, hcd⟩ := F1.ex
  refine fn_of lk hcd S len fun A outer s H vs Q E hr hsp => ?_
  obtain ⟨t, p, q⟩ := hbody cdv A outer s H vs Q E hr hsp
  exact ⟨t, p.un, q⟩
theorem passN {P : Program} {w : World} {X : Cx} : Passes (CXE P w) X E0 := fun _ _ _ _ _ _ _ h => by
  obtain ⟨_, _, _, _, _, _, _, _, _, _, _, _, _, _, q⟩ := h
  exact q.elim
section
variable {X : Cx}
theorem PS.nox {st : Stmt} {t : TS} (h : PS X.nox st t) : PS X st t := fun pins s σ H D I hw =>
  wpAny_mono (h pins s σ H D (I.wish _) hw) (fun _ _ q => q.unwish) fun _ _ z => False.elim z
theorem snox {st : Stmt} {t : TS} (h : QS X.nox st t) : QS X st t := .mk (PS.nox h.un)
@[irreducible] noncomputable def QX (X : Cx) (sts : List Stmt) (t : TX) : Prop := PX X sts t
theorem QX.un {sts : List Stmt} {t : TX} (h : QX X sts t) : PX X sts t := by unfold QX at h; exact h
theorem QX.mk {sts : List Stmt} {t : TX} (h : PX X sts t) : QX X sts t := by unfold QX; exact h
end
section
variable {P : Program} {w : World} {K : PySem.W.Frag} {mg : Str → Option Value} {base : Heap} {N : List Str} {qual : Str} {scope : Scope} {f : Addr} {cd : Value} {A : Around} {outer : List Env} {s : Shared} {H : Hp} {E : XK}
theorem sraise {x : Str} {C : Addr} {e0 : Expr} {es : List Expr} {t : TA} {np cpos pos : Pos} (R : ErrK K mg x C) (hg : Gl (cxOf (CXE P w) P w K mg base N qual scope f cd A outer s H E) x) (ha : QA (cxOf (CXE P w) P w K mg base N qual scope f cd A outer s H E) (e0 :: es) t)
    (hdb : (x == ("__debug__" : Str)) = false := by decide) (he : starEach (e0 :: es) (cxOf (CXE P w) P w K mg base N qual scope f cd A outer s H E).env = (false, eval e0 (cxOf (CXE P w) P w K mg base N qual scope f cd A outer s H E).env) :: starEach es (cxOf (CXE P w) P w K mg base N qual scope f cd A outer s H E).env := by rfl)
    (hpl : (backTo cpos (starEach es (cxOf (CXE P w) P w K mg base N qual scope f cd A outer s H E).env)).any (·.1) = false := by rfl) :
    QS (cxOf (CXE P w) P w K mg base N qual scope f cd A outer s H E) (.Raise (some (.Call (.Name x np) (e0 :: es) [] cpos)) none pos) (tRaise E C t) := .mk (ps_raise R hg ha.un hdb he hpl)
end
end L3
namespace L3
open PySem PySem.SeqAt PySem.Spec PyProof.Rows L2
section
variable {X : Cx}
end
section
variable {X : Cx}
end
end L3
namespace L3
open PySem L2
theorem for_listN {K : PySem.W.Frag} {a : Addr} {xs : List V} {g : TG} {tb : TS} {D : Ends} {σ : L2.St} {H : Hp} (Pv : Nat → L2.St → Hp → Prop) (h0 : Pv 0 σ H) (hl : ∀ i σ H, i ≤ xs.length → Pv i σ H → SqL K H a xs)
    (hs : ∀ (N B : L2.St → Hp → Prop) (R : VK) i x σ H, xs[i]? = some x → (∀ σ H, Pv (i + 1) σ H → N σ H) → (∀ σ H, D.nx σ H → B σ H) → (∀ v H, D.rt v H → R v H) → Pv i σ H → g x σ H fun σ2 H2 => tb ⟨N, R, B, N⟩ σ2 H2) (hd : ∀ σ H, Pv xs.length σ H → D.nx σ H) :
    ∃ W : Nat → Nat → L2.St → Hp → Prop, (∃ m, W 0 m σ H) ∧ ∀ i m σ H, W i m σ H →
      ((Itl K a).stop i H ∧ D.nx σ H) ∨ ((Itl K a).go i H ∧ ∃ N : L2.St → Hp → Prop, (∀ σ' H', N σ' H' → ∃ m', m' < m ∧ W (i + 1) m' σ' H') ∧ ∀ x H', (Itl K a).yld i H x H' → g x σ H' fun σ2 H2 => tb { D with nx := N, ct := N, bk := D.nx } σ2 H2) :=
  for_list Pv h0 hl (fun i x σ H hx hp => hs _ _ _ i x σ H hx (fun _ _ h => h) (fun _ _ h => h) (fun _ _ h => h) hp) hd
end L3
namespace L3
inductive Tr where
  | nil
  | node (l : Tr) (k : Int) (r : Tr)
namespace Tr
noncomputable def d : Tr → D
  | nil => .non
  | node l k r => .tup [l.d, .int k, r.d]
noncomputable def ht : Tr → Nat
  | nil => 0
  | node l _ r => max l.ht r.ht + 1
noncomputable def size : Tr → Nat
  | nil => 0
  | node l _ r => l.size + 1 + r.size
noncomputable def keys : Tr → List Int
  | nil => []
  | node l k r => l.keys ++ [k] ++ r.keys
noncomputable def ins (x : Int) : Tr → Tr
  | nil => node nil x nil
  | node l k r => if x < k then node (l.ins x) k r else node l k (r.ins x)
noncomputable def ord : Tr → Option Int → Option Int → Prop
  | nil, _, _ => True
  | node l k r, lo, hi => (∀ a, lo = some a → a < k) ∧ (∀ b, hi = some b → k < b) ∧ l.ord lo (some k) ∧ r.ord (some k) hi
theorem ht_size : ∀ t : Tr, t.ht ≤ t.size
  | nil => Nat.le_refl _
  | node l k r => by have := ht_size l; have := ht_size r; simp only [ht, size]; lia
theorem keys_length : ∀ t : Tr, t.keys.length = t.size
  | nil => rfl
  | node l k r => by simp only [keys, size, List.length_append, List.length_singleton, keys_length l, keys_length r]
theorem dep_d : ∀ t : Tr, t.d.dep ≤ t.ht
  | nil => Nat.le_refl _
  | node l k r => by
    have := dep_d l
    have := dep_d r
    simp only [d, D.dep, deps, ht]
    lia
theorem ins_size (x : Int) : ∀ t : Tr, (t.ins x).size = t.size + 1
  | nil => rfl
  | node l k r => by
    unfold ins
    split
    · simp only [size, ins_size x l]; lia
    · simp only [size, ins_size x r]; lia
theorem mem_ins (x y : Int) : ∀ t : Tr, y ∈ (t.ins x).keys ↔ y = x ∨ y ∈ t.keys
  | nil => by simp [ins, keys]
  | node l k r => by
    unfold ins
    split
    · simp only [keys, List.mem_append, List.mem_singleton, mem_ins x y l]; grind
    · simp only [keys, List.mem_append, List.mem_singleton, mem_ins x y r]; grind
theorem ins_ord (x : Int) : ∀ (t : Tr) (lo hi : Option Int), t.ord lo hi → x ∉ t.keys → (∀ a, lo = some a → a < x) → (∀ b, hi = some b → x < b) → (t.ins x).ord lo hi
  | nil, lo, hi, _, _, h1, h2 => ⟨h1, h2, trivial, trivial⟩
  | node l k r, lo, hi, h, hx, h1, h2 => by
    obtain ⟨a1, a2, a3, a4⟩ := h
    simp only [keys, List.mem_append, List.mem_singleton, not_or] at hx
    unfold ins
    split
    · exact ⟨a1, a2, ins_ord x l lo (some k) a3 hx.1.1 h1 (fun b e => by cases e; assumption), a4⟩
    · refine ⟨a1, a2, a3, ins_ord x r (some k) hi a4 hx.2 (fun a e => ?_) h2⟩
      cases e
      have := hx.1.2
      lia
end Tr
theorem nodup_insert {xs : List Int} {x : Int} (i : Nat) (h : xs.Nodup) (hx : x ∉ xs) : (xs.take i ++ x :: xs.drop i).Nodup := by
  have hp : (xs.take i ++ x :: xs.drop i).Perm (x :: xs) := by
    have h1 : (xs.take i ++ x :: xs.drop i).Perm (x :: (xs.take i ++ xs.drop i)) := List.perm_middle
    rw [List.take_append_drop] at h1
    exact h1
  exact hp.nodup_iff.mpr (List.nodup_cons.mpr ⟨hx, h⟩)
theorem mem_insert {xs : List Int} {x y : Int} (i : Nat) : y ∈ xs.take i ++ x :: xs.drop i ↔ y = x ∨ y ∈ xs := by
  have hp : (xs.take i ++ x :: xs.drop i).Perm (x :: xs) := by
    have h1 : (xs.take i ++ x :: xs.drop i).Perm (x :: (xs.take i ++ xs.drop i)) := List.perm_middle
    rw [List.take_append_drop] at h1
    exact h1
  rw [hp.mem_iff, List.mem_cons]
end L3
namespace L3
noncomputable def maxI : List Int → Int
  | [] => 0
  | [a] => a
  | a :: r => max a (maxI r)
theorem maxI_spec : ∀ (ns : List Int) (M : Int), M ∈ ns → (∀ a ∈ ns, a ≤ M) → M = maxI ns
  | [], M, h, _ => by simp at h
  | [a], M, h, _ => by simpa [maxI] using h
  | a :: b :: r, M, h, hm => by
    have ih := maxI_spec (b :: r)
    rw [maxI]
    · have hx : ∀ x ∈ b :: r, x ≤ maxI (b :: r) := fun x hx => by
        have key : ∀ (l : List Int), l ≠ [] → maxI l ∈ l ∧ ∀ x ∈ l, x ≤ maxI l := by
          intro l
          induction l with
          | nil => intro h; exact absurd rfl h
          | cons y t iht =>
            intro _
            cases t with
            | nil => simp [maxI]
            | cons z t =>
              obtain ⟨i1, i2⟩ := iht (by simp)
              rw [maxI]
              · constructor
                · rcases Int.le_total y (maxI (z :: t)) with h | h
                  · rw [Int.max_eq_right h]; exact List.mem_cons_of_mem _ i1
                  · rw [Int.max_eq_left h]; exact List.mem_cons_self
                · intro x hx
                  rcases List.mem_cons.mp hx with rfl | hx
                  · lia
                  · have := i2 x hx; lia
              · intro h; cases h
        exact (key (b :: r) (by simp)).2 x hx
      have hmem : maxI (b :: r) ∈ b :: r := by
        have key : ∀ (l : List Int), l ≠ [] → maxI l ∈ l := by
          intro l
          induction l with
          | nil => intro h; exact absurd rfl h
          | cons y t iht =>
            intro _
            cases t with
            | nil => simp [maxI]
            | cons z t =>
              have i1 := iht (by simp)
              rw [maxI]
              · rcases Int.le_total y (maxI (z :: t)) with h | h
                · rw [Int.max_eq_right h]; exact List.mem_cons_of_mem _ i1
                · rw [Int.max_eq_left h]; exact List.mem_cons_self
              · intro h; cases h
        exact key (b :: r) (by simp)
      have h1 := hm _ (List.mem_cons_of_mem a hmem)
      have h2 := hm a List.mem_cons_self
      rcases List.mem_cons.mp h with rfl | h
      · lia
      · have h3 := hx M h; lia
    · intro h; cases h
noncomputable def ruleM (ks : List (Int × Int)) (room : Int) : Int × Int :=
  if ks = [] then (1, 1) else
    let lv := maxI (ks.map (·.1))
    let sz := 1 + ((ks.filter fun p => decide (p.1 = lv)).map (·.2)).sum
    if sz ≤ room then (lv, sz) else (lv + 1, 1)
namespace Tr
noncomputable def key? : Tr → List Int
  | nil => []
  | node _ k _ => [k]
noncomputable def mark (room : Int) : Tr → Int × Int
  | nil => (0, 0)
  | node l _ r => ruleM ((match l with | nil => [] | node .. => [l.mark room]) ++ (match r with | nil => [] | node .. => [r.mark room])) room
noncomputable def mk1 (room : Int) (t : Tr) : List (Int × Int) := match t with
  | nil => []
  | node .. => [t.mark room]
theorem mark_node (room : Int) (l : Tr) (k : Int) (r : Tr) : (node l k r).mark room = ruleM (l.mk1 room ++ r.mk1 room) room := by
  cases l <;> cases r <;> rfl
noncomputable def wk : Tr → List (Int × List Int)
  | nil => []
  | node l k r => l.wk ++ r.wk ++ [(k, l.key? ++ r.key?)]
noncomputable def pt (room : Int) : Tr → List (Int × Int × Int)
  | nil => []
  | node l k r => l.pt room ++ r.pt room ++ [(k, (node l k r).mark room)]
noncomputable def io (room : Int) : Tr → List (Int × Int × Int)
  | nil => []
  | node l k r => l.io room ++ [(k, (node l k r).mark room)] ++ r.io room
theorem io_keys (room : Int) : ∀ t : Tr, (t.io room).map (·.1) = t.keys
  | nil => rfl
  | node l k r => by simp [io, keys, io_keys room l, io_keys room r]
theorem io_pt (room : Int) : ∀ (t : Tr) (e : Int × Int × Int), e ∈ t.io room → e ∈ t.pt room
  | nil, e, h => h
  | node l k r, e, h => by
    simp only [io, pt, List.mem_append, List.mem_singleton] at h ⊢
    rcases h with (h | h) | h
    · exact .inl (.inl (io_pt room l e h))
    · exact .inr h
    · exact .inl (.inr (io_pt room r e h))
theorem pt_perm (room : Int) : ∀ t : Tr, ((t.pt room).map (·.1)).Perm t.keys
  | nil => .refl _
  | node l k r => by
    simp only [pt, keys, List.map_append, List.map_cons, List.map_nil]
    have h1 := pt_perm room l
    have h2 := pt_perm room r
    have h3 : ((l.pt room).map (·.1) ++ (r.pt room).map (·.1) ++ [k]).Perm (l.keys ++ r.keys ++ [k]) := (h1.append h2).append_right _
    refine h3.trans ?_
    rw [List.append_assoc, List.append_assoc]
    exact List.Perm.append_left _ List.perm_append_comm
theorem wk_length : ∀ t : Tr, t.wk.length = t.size
  | nil => rfl
  | node l k r => by simp only [wk, List.length_append, List.length_singleton, wk_length l, wk_length r, size]; lia
end Tr
noncomputable abbrev Tab := List (Int × Int × Int)
noncomputable def look (tb : Tab) (k : Int) : Option (Int × Int) := (tb.find? fun e => decide (e.1 = k)).map (·.2)
theorem look_mem : ∀ {tb : Tab} {k : Int} {m : Int × Int}, (tb.map (·.1)).Nodup → (k, m) ∈ tb → look tb k = some m
  | [], k, m, _, h => by simp at h
  | e :: r, k, m, hn, h => by
    obtain ⟨h1, h2⟩ := List.nodup_cons.mp (show (e.1 :: r.map (·.1)).Nodup from hn)
    unfold look
    rw [List.find?_cons]
    rcases List.mem_cons.mp h with e1 | h'
    · subst e1; simp
    · have hne : ¬ e.1 = k := fun z => h1 (by rw [z]; exact List.mem_map.mpr ⟨_, h', rfl⟩)
      simp only [hne, decide_false]
      exact look_mem h2 h'
noncomputable def stepT (room : Int) (tb : Tab) (e : Int × List Int) : Tab := tb ++ [(e.1, ruleM (e.2.filterMap (look tb)) room)]
namespace Tr
theorem key_mark (room : Int) (t : Tr) (k : Int) (h : k ∈ t.key?) : (k, t.mark room) ∈ t.pt room := by
  cases t with
  | nil => simp [key?] at h
  | node l x r => simp [key?] at h; subst h; simp [pt]
theorem kids_look (room : Int) (t : Tr) {tb : Tab} (hn : (tb.map (·.1)).Nodup) (hs : ∀ e ∈ t.pt room, e ∈ tb) : t.key?.filterMap (look tb) = t.mk1 room := by
  cases t with
  | nil => rfl
  | node l x r =>
    have : look tb x = some ((node l x r).mark room) := look_mem hn (hs _ (key_mark room _ x (by simp [key?])))
    simp [key?, mk1, this]
theorem fold_wk (room : Int) : ∀ (t : Tr) (tb : Tab), ((tb ++ t.pt room).map (·.1)).Nodup → t.wk.foldl (stepT room) tb = tb ++ t.pt room
  | nil, tb, _ => by simp [wk, pt]
  | node l k r, tb, h => by
    rw [pt, ← List.append_assoc, ← List.append_assoc] at h
    have h3 : ((tb ++ l.pt room ++ r.pt room).map (·.1)).Nodup := by
      rw [List.map_append] at h
      exact (List.nodup_append.mp h).1
    have h2 : ((tb ++ l.pt room).map (·.1)).Nodup := by
      rw [List.map_append] at h3
      exact (List.nodup_append.mp h3).1
    rw [wk, List.foldl_append, List.foldl_append, fold_wk room l tb h2, fold_wk room r _ h3, List.foldl_cons, List.foldl_nil]
    unfold stepT
    rw [List.filterMap_append, kids_look room l h3 (fun e he => by simp [he]), kids_look room r h3 (fun e he => by simp [he]), ← mark_node room l k r, pt]
    simp [List.append_assoc]
theorem wk_keys (room : Int) : ∀ t : Tr, t.wk.map (·.1) = (t.pt room).map (·.1)
  | nil => rfl
  | node l k r => by simp [wk, pt, wk_keys room l, wk_keys room r]
theorem pt_nodup (room : Int) {t : Tr} (h : t.keys.Nodup) : ((t.pt room).map (·.1)).Nodup := (pt_perm room t).nodup_iff.mpr h
end Tr
theorem step_keys (room : Int) : ∀ (w : List (Int × List Int)) (tb : Tab), (w.foldl (stepT room) tb).map (·.1) = tb.map (·.1) ++ w.map (·.1)
  | [], tb => by simp
  | e :: r, tb => by rw [List.foldl_cons, step_keys room r]; simp [stepT]
noncomputable def Ahead : List (Int × List Int) → List Int → Prop
  | [], _ => True
  | e :: r, seen => (∀ k ∈ e.2, k ∈ seen) ∧ Ahead r (seen ++ [e.1])
theorem ahead_append : ∀ (a b : List (Int × List Int)) (seen : List Int), Ahead (a ++ b) seen ↔ Ahead a seen ∧ Ahead b (seen ++ a.map (·.1))
  | [], b, seen => by simp [Ahead]
  | e :: r, b, seen => by
    rw [List.cons_append, Ahead, Ahead, ahead_append r b, List.map_cons]
    simp [List.append_assoc, and_assoc]
theorem ahead_mono : ∀ (a : List (Int × List Int)) (s s' : List Int), (∀ x ∈ s, x ∈ s') → Ahead a s → Ahead a s'
  | [], _, _, _, _ => trivial
  | e :: r, s, s', h, ⟨h1, h2⟩ => ⟨fun k hk => h k (h1 k hk), ahead_mono r _ _ (fun x hx => by
      rcases List.mem_append.mp hx with q | q
      · exact List.mem_append_left _ (h x q)
      · exact List.mem_append_right _ q) h2⟩
theorem Tr.wk_ahead : ∀ t : Tr, Ahead t.wk []
  | .nil => trivial
  | .node l k r => by
    rw [Tr.wk, ahead_append, ahead_append]
    refine ⟨⟨Tr.wk_ahead l, ahead_mono _ _ _ (by simp) (Tr.wk_ahead r)⟩, ?_, trivial⟩
    intro x hx
    have key : ∀ t : Tr, ∀ x ∈ t.key?, x ∈ t.wk.map (·.1) := by
      intro t x hx
      cases t with
      | nil => simp [Tr.key?] at hx
      | node l x r => simp [Tr.key?] at hx; subst hx; simp [Tr.wk]
    simp only [List.mem_append] at hx
    simp only [List.map_append, List.nil_append, List.mem_append]
    rcases hx with hx | hx
    · exact .inl (key l x hx)
    · exact .inr (key r x hx)
theorem ahead_at : ∀ (w : List (Int × List Int)) (seen : List Int) (i : Nat) (e : Int × List Int), Ahead w seen → w[i]? = some e → ∀ k ∈ e.2, k ∈ seen ++ (w.take i).map (·.1)
  | [], _, i, e, _, h => by simp at h
  | x :: r, seen, 0, e, ⟨h1, _⟩, h => by simp at h; subst h; intro k hk; simpa using h1 k hk
  | x :: r, seen, i + 1, e, ⟨_, h2⟩, h => by
    intro k hk
    have := ahead_at r (seen ++ [x.1]) i e h2 (by simpa using h) k hk
    simpa [List.append_assoc] using this
theorem Tr.wk_small : ∀ (t : Tr) (e : Int × List Int), e ∈ t.wk → e.2.length ≤ 2
  | .nil, e, h => by simp [Tr.wk] at h
  | .node l k r, e, h => by
    simp only [Tr.wk, List.mem_append, List.mem_singleton] at h
    rcases h with (h | h) | h
    · exact Tr.wk_small l e h
    · exact Tr.wk_small r e h
    · subst h
      have : ∀ t : Tr, t.key?.length ≤ 1 := fun t => by cases t <;> simp [Tr.key?]
      have h1 := this l
      have h2 := this r
      simp only [List.length_append]
      lia
noncomputable def Tr.sub (t : Tr) : List Tr := match t with
  | .nil => []
  | .node .. => [t]
end L3
namespace L3
open PySem L2
noncomputable def PenAt (H : Hp) (p : Addr) : Prop := ∃ m n, H p = some (.lst [.int m, .int n])
theorem PenAt.mono {H H' : Hp} {p : Addr} (h : PenAt H p) (s : Same H H') : PenAt H' p := by
  obtain ⟨m, n, e⟩ := h
  exact ⟨m, n, s _ _ e⟩
theorem PenAt.ne {H : Hp} {p l : Addr} (h : PenAt H p) (e : H l = none) : l ≠ p := by
  obtain ⟨m, n, q⟩ := h
  intro z
  rw [z, q] at e; cases e
theorem rep_node {H : Hp} {v : V} {l r : Tr} {k : Int} (h : Rep H v (Tr.node l k r).d) : ∃ a vl vr, v = .ref a ∧ H a = some (.tup [vl, .int k, vr]) ∧ Rep H vl l.d ∧ Rep H vr r.d := by
  cases h with
  | @tup a vs xs e rs =>
    cases rs with
    | cons h1 r1 =>
      cases r1 with
      | cons h2 r2 =>
        cases r2 with
        | cons h3 r3 =>
          cases r3
          cases h2
          exact ⟨a, _, _, rfl, e, h1, h3⟩
theorem rep_nil {H : Hp} {v : V} (h : Rep H v Tr.nil.d) : v = .non := by cases h; rfl
theorem rep_mk {H : Hp} {a : Addr} {vl vr : V} {k : Int} {l r : D} (e : H a = some (.tup [vl, .int k, vr])) (h1 : Rep H vl l) (h2 : Rep H vr r) : Rep H (.ref a) (.tup [l, .int k, r]) := .tup e (.cons h1 (.cons (.int k) (.cons h2 .nil)))
theorem rep_tup {H : Hp} {v : V} {xs : List D} (h : Rep H v (.tup xs)) : ∃ a vs, v = .ref a ∧ H a = some (.tup vs) ∧ Reps H vs xs := by
  cases h with
  | tup e r => exact ⟨_, _, rfl, e, r⟩
theorem rep_rm {H : Hp} {p : Addr} {vs : List V} (hp : H p = some (.lst vs)) : ∀ (t : Tr) {v : V}, Rep H v t.d → Rep (rm p H) v t.d
  | .nil, v, h => by cases rep_nil h; exact .non
  | .node l k r, v, h => by
    obtain ⟨a, vl, vr, rfl, ea, hl, hr⟩ := rep_node h
    exact rep_mk (by rw [rm_ne (fun z => by rw [z, hp] at ea; cases ea)]; exact ea) (rep_rm hp l hl) (rep_rm hp r hr)
theorem pures_ints : ∀ ns : List Int, pures (ns.map D.int) = true
  | [] => rfl
  | n :: r => by rw [List.map_cons, pures, pures_ints r]; rfl
theorem deps_ints : ∀ ns : List Int, deps (ns.map D.int) = 0
  | [] => rfl
  | n :: r => by rw [List.map_cons, deps, deps_ints r]; rfl
theorem rep_ints {H : Hp} {a : Addr} {ns : List Int} (h : H a = some (.lst (ns.map V.int))) : Rep H (.ref a) (.lst (ns.map D.int)) := .lst h (Reps.ints ns)
end L3
namespace L3
open PySem L2
inductive DT (H : Hp) : List (Key × V) → Tab → Prop where
  | nil : DT H [] []
  | cons {k lv sz : Int} {b : Addr} {kvs : List (Key × V)} {tb : Tab} : H b = some (.tup [.int lv, .int sz]) → DT H kvs tb → DT H ((Sum.inl k, .ref b) :: kvs) ((k, lv, sz) :: tb)
theorem DT.mono {H H' : Hp} {kvs : List (Key × V)} {tb : Tab} (h : DT H kvs tb) (s : Same H H') : DT H' kvs tb := by
  induction h with
  | nil => exact .nil
  | cons e _ ih => exact .cons (s _ _ e) ih
theorem DT.upd {H : Hp} {kvs : List (Key × V)} {tb : Tab} {d : Addr} {o o' : HO} (h : DT H kvs tb) (hd : H d = some o) (ho : ∀ vs, o ≠ .tup vs) : DT (L2.upd H d o') kvs tb := by
  induction h with
  | nil => exact .nil
  | cons e _ ih =>
    refine .cons ?_ ih
    rw [upd_ne (fun z => by rw [z, hd] at e; exact ho _ (Option.some.inj e))]
    exact e
theorem DT.length {H : Hp} {kvs : List (Key × V)} {tb : Tab} (h : DT H kvs tb) : kvs.length = tb.length := by
  induction h with
  | nil => rfl
  | cons _ _ ih => rw [List.length_cons, List.length_cons, ih]
theorem DT.append {H : Hp} {a b : List (Key × V)} {s t : Tab} (h : DT H a s) (h' : DT H b t) : DT H (a ++ b) (s ++ t) := by
  induction h with
  | nil => exact h'
  | cons e _ ih => exact .cons e ih
theorem DT.val {H : Hp} {kvs : List (Key × V)} {tb : Tab} (h : DT H kvs tb) {k : Int} {m : Int × Int} (e : look tb k = some m) : ∃ b, valV kvs (Sum.inl k : Key) = some (.ref b) ∧ H b = some (.tup [.int m.1, .int m.2]) := by
  induction h with
  | nil => simp [look] at e
  | @cons k' lv sz b kvs tb eb _ ih =>
    unfold look at e
    rw [List.find?_cons] at e
    by_cases hk : k' = k
    · subst hk
      simp at e
      subst e
      exact ⟨b, valV_pos rfl, eb⟩
    · simp only [hk, decide_false] at e
      obtain ⟨b', h1, h2⟩ := ih e
      exact ⟨b', by rw [valV_neg (by simpa using hk)]; exact h1, h2⟩
theorem DT.none {H : Hp} {kvs : List (Key × V)} {tb : Tab} (h : DT H kvs tb) {k : Int} (hk : k ∉ tb.map (·.1)) : valV kvs (Sum.inl k : Key) = Option.none := by
  induction h with
  | nil => rfl
  | @cons k' lv sz b kvs tb eb _ ih =>
    simp only [List.map_cons, List.mem_cons, not_or] at hk
    rw [valV_neg (by simpa using fun z => hk.1 z.symm)]
    exact ih hk.2
theorem DT.put {H : Hp} {kvs : List (Key × V)} {tb : Tab} (h : DT H kvs tb) {k lv sz : Int} {b : Addr} (hk : k ∉ tb.map (·.1)) (eb : H b = some (.tup [.int lv, .int sz])) : DT H (putK kvs (Sum.inl k : Key) (.ref b)) (tb ++ [(k, lv, sz)]) := by
  rw [putK_new _ (h.none hk)]
  exact h.append (.cons eb .nil)
noncomputable def pairD (m : Int × Int) : D := .tup [.int m.1, .int m.2]
noncomputable def rowD (e : Int × Int × Int) : D := .tup [.int e.1, .int e.2.1, .int e.2.2]
noncomputable def kidD (e : Int × List Int) : D := .tup [.int e.1, .lst (e.2.map D.int)]
theorem rep_lst {H : Hp} {v : V} {xs : List D} (h : Rep H v (.lst xs)) : ∃ a vs, v = .ref a ∧ H a = some (.lst vs) ∧ Reps H vs xs := by
  cases h with
  | lst e r => exact ⟨_, _, rfl, e, r⟩
theorem rep_int {H : Hp} {v : V} {i : Int} (h : Rep H v (.int i)) : v = .int i := by cases h; rfl
theorem rep_pair {H : Hp} {v : V} {m : Int × Int} (h : Rep H v (pairD m)) : ∃ b, v = .ref b ∧ H b = some (.tup [.int m.1, .int m.2]) := by
  obtain ⟨a, vs, rfl, e, rs⟩ := rep_tup h
  cases rs with
  | cons h1 rs =>
    cases rs with
    | cons h2 rs =>
      cases rs
      cases rep_int h1
      cases rep_int h2
      exact ⟨a, rfl, e⟩
theorem pair_rep {H : Hp} {b : Addr} {m : Int × Int} (h : H b = some (.tup [.int m.1, .int m.2])) : Rep H (.ref b) (pairD m) := .tup h (.cons (.int _) (.cons (.int _) .nil))
theorem reps_ints : ∀ {H : Hp} {vs : List V} {ns : List Int}, Reps H vs (ns.map D.int) → vs = ns.map V.int
  | _, [], [], .nil => rfl
  | H, _, n :: r, h => by
    cases h with
    | cons h1 h2 => rw [rep_int h1, reps_ints h2]; rfl
theorem rep_kid {H : Hp} {v : V} {e : Int × List Int} (h : Rep H v (kidD e)) : ∃ b c, v = .ref b ∧ H b = some (.tup [.int e.1, .ref c]) ∧ H c = some (.lst (e.2.map V.int)) := by
  obtain ⟨a, vs, rfl, ea, rs⟩ := rep_tup h
  cases rs with
  | cons h1 rs =>
    cases rs with
    | cons h2 rs =>
      cases rs
      cases rep_int h1
      obtain ⟨c, ws, rfl, ec, rw'⟩ := rep_lst h2
      rw [reps_ints rw'] at ec
      exact ⟨a, c, rfl, ea, ec⟩
theorem reps_map {H : Hp} {α : Type} {f : α → D} : ∀ {vs : List V} {xs : List α} {i : Nat} {v : V}, Reps H vs (xs.map f) → vs[i]? = some v → ∃ x, xs[i]? = some x ∧ Rep H v (f x) := by
  intro vs xs i v h e
  obtain ⟨d, h1, h2⟩ := h.get e
  rw [List.getElem?_map] at h1
  obtain ⟨x, hx, rfl⟩ := Option.map_eq_some_iff.mp h1
  exact ⟨x, hx, h2⟩
mutual
/-- data without a dict stand apart from a dict -/
theorem Rep.apart {H : Hp} {d : Addr} {kvs : List (Key × V)} (hd : H d = some (.dK kvs)) {v : V} {e : D} : Rep H v e → e.pure = true → Rep (rm d H) v e
  | .non => fun _ => .non
  | .bl b => fun _ => .bl b
  | .int i => fun _ => .int i
  | .str x => fun _ => .str x
  | .tup (a := a) ea r => fun h => .tup (by rw [rm_ne (fun z => by rw [z, hd] at ea; cases ea)]; exact ea) (Reps.apart hd r (by rw [D.pure] at h; exact h))
  | .lst (a := a) ea r => fun h => .lst (by rw [rm_ne (fun z => by rw [z, hd] at ea; cases ea)]; exact ea) (Reps.apart hd r (by rw [D.pure] at h; exact h))
  | .emp _ => fun h => by rw [D.pure] at h; cases h
theorem Reps.apart {H : Hp} {d : Addr} {kvs : List (Key × V)} (hd : H d = some (.dK kvs)) {vs : List V} {es : List D} : Reps H vs es → pures es = true → Reps (rm d H) vs es
  | .nil => fun _ => .nil
  | .cons h r => fun q => by
    rw [pures, Bool.and_eq_true] at q
    exact .cons (Rep.apart hd h q.1) (Reps.apart hd r q.2)
end
theorem pures_map {α : Type} {f : α → D} (hf : ∀ x, (f x).pure = true) : ∀ xs : List α, pures (xs.map f) = true
  | [] => rfl
  | x :: r => by rw [List.map_cons, pures, hf x, pures_map hf r]; rfl
theorem pure_pair (m : Int × Int) : (pairD m).pure = true := rfl
theorem pure_kid (e : Int × List Int) : (kidD e).pure = true := by
  show (true && (pures (e.2.map D.int) && true)) = true
  rw [pures_ints]; rfl
theorem deps_map {α : Type} {f : α → D} {n : Nat} (hf : ∀ x, (f x).dep ≤ n) : ∀ xs : List α, deps (xs.map f) ≤ n
  | [] => Nat.zero_le _
  | x :: r => by rw [List.map_cons, deps]; have := hf x; have := deps_map hf r; lia
end L3
namespace L3
open PySem L2
noncomputable def Pen3 (H : Hp) (p : Addr) : Prop := ∃ m n c, H p = some (.lst [.int m, .int n, .int c])
theorem Pen3.mono {H H' : Hp} {p : Addr} (h : Pen3 H p) (s : Same H H') : Pen3 H' p := by
  obtain ⟨m, n, c, e⟩ := h
  exact ⟨m, n, c, s _ _ e⟩
theorem ne_same {H : Hp} {a b : Addr} {e : D} {Q : VK} (ra : Rep H (.ref a) e) (rb : Rep H (.ref b) e) (hp : e.pure = true) (hd : e.dep ≤ 140) (h : Q (.bl false) H) : rNeG 150 (.ref a) (.ref b) H Q := by
  refine ⟨_, _, ra, rb, hp, hp, by lia, ?_⟩
  rw [D.eqv_refl]; exact h
theorem eq_same {H : Hp} {a b : Addr} {e : D} {Q : VK} (ra : Rep H (.ref a) e) (rb : Rep H (.ref b) e) (hp : e.pure = true) (hd : e.dep ≤ 140) (h : Q (.bl true) H) : rEqG 150 (.ref a) (.ref b) H Q := by
  refine ⟨_, _, ra, rb, hp, hp, by lia, ?_⟩
  rw [D.eqv_refl]; exact h
theorem inV_ints (k : Int) : ∀ ws : List Int, inV (.int k) (ws.map V.int) = decide (k ∈ ws)
  | [] => by simp [inV]
  | w :: ws => by
    have ih := inV_ints k ws
    unfold inV at ih ⊢
    rw [List.map_cons, List.any_cons, ih]
    by_cases h : w = k
    · subst h; simp [eqV]
    · have h' : ¬ k = w := fun z => h z.symm
      simp [eqV, h, h']
theorem flat_ints : ∀ ws : List Int, (ws.map V.int).all flatV = true
  | [] => rfl
  | w :: ws => by rw [List.map_cons, List.all_cons, flat_ints ws]; rfl
noncomputable def Pgs (H : Hp) : List Addr → List (List Int) → Prop
  | [], [] => True
  | b :: bs, p :: ps => H b = some (.lst (p.map V.int)) ∧ Pgs H bs ps
  | _, _ => False
theorem Pgs.mono {H H' : Hp} : ∀ {bs : List Addr} {ps : List (List Int)}, Pgs H bs ps → Same H H' → Pgs H' bs ps
  | [], [], _, _ => trivial
  | b :: bs, p :: ps, h, s => ⟨s _ _ h.1, h.2.mono s⟩
  | [], _ :: _, h, _ => h.elim
  | _ :: _, [], h, _ => h.elim
theorem Pgs.len {H : Hp} : ∀ {bs : List Addr} {ps : List (List Int)}, Pgs H bs ps → bs.length = ps.length
  | [], [], _ => rfl
  | b :: bs, p :: ps, h => by simp [h.2.len]
  | [], _ :: _, h => h.elim
  | _ :: _, [], h => h.elim
theorem Pgs.at {H : Hp} : ∀ {bs : List Addr} {ps : List (List Int)} {j : Nat} {b : Addr}, Pgs H bs ps → bs[j]? = some b → ∃ p, ps[j]? = some p ∧ H b = some (.lst (p.map V.int))
  | [], [], _, _, _, e => by simp at e
  | c :: bs, q :: ps, 0, b, h, e => by simp at e; subst e; exact ⟨q, rfl, h.1⟩
  | c :: bs, q :: ps, j + 1, b, h, e => by simpa using Pgs.at h.2 (j := j) (by simpa using e)
  | [], _ :: _, _, _, h, _ => h.elim
  | _ :: _, [], _, _, h, _ => h.elim
noncomputable def Ls (ps : List (List Int)) : D := .lst (ps.map fun p => .lst (p.map D.int))
theorem Ls_pures : ∀ ps : List (List Int), pures (ps.map fun p => D.lst (p.map D.int)) = true
  | [] => rfl
  | p :: r => by rw [List.map_cons, pures, Ls_pures r, D.pure, pures_ints]; rfl
theorem Ls_deps : ∀ ps : List (List Int), deps (ps.map fun p => D.lst (p.map D.int)) ≤ 1
  | [] => by rw [List.map_nil, deps]; decide
  | p :: r => by
    have := Ls_deps r
    rw [List.map_cons, deps, D.dep, deps_ints]
    lia
theorem Ls_pure (ps : List (List Int)) : (Ls ps).pure = true := by unfold Ls; rw [D.pure]; exact Ls_pures ps
theorem Ls_dep (ps : List (List Int)) : (Ls ps).dep ≤ 140 := by
  have := Ls_deps ps
  unfold Ls; rw [D.dep]; lia
theorem Pgs.reps {H : Hp} : ∀ {bs : List Addr} {ps : List (List Int)}, Pgs H bs ps → Reps H (bs.map V.ref) (ps.map fun p => D.lst (p.map D.int))
  | [], [], _ => .nil
  | b :: bs, p :: ps, h => .cons (rep_ints h.1) h.2.reps
  | [], _ :: _, h => h.elim
  | _ :: _, [], h => h.elim
theorem Pgs.rep {H : Hp} {a : Addr} {bs : List Addr} {ps : List (List Int)} (h : Pgs H bs ps) (e : H a = some (.lst (bs.map V.ref))) : Rep H (.ref a) (Ls ps) := .lst e h.reps
end L3
namespace L3
open PySem L2
noncomputable def way (k : Int) : Tr → List Int
  | .nil => []
  | .node l x r => if x = k then [k] else x :: (if k < x then way k l else way k r)
noncomputable def at_ (k : Int) : Tr → Tr
  | .nil => .nil
  | .node l x r => if x = k then .node l x r else if k < x then at_ k l else at_ k r
theorem ord_bd : ∀ (t : Tr) (lo hi : Option Int), t.ord lo hi → ∀ y ∈ t.keys, (∀ a, lo = some a → a < y) ∧ ∀ b, hi = some b → y < b
  | .nil, lo, hi, _, y, hy => by simp [Tr.keys] at hy
  | .node l x r, lo, hi, h, y, hy => by
    obtain ⟨h1, h2, h3, h4⟩ := h
    simp only [Tr.keys, List.mem_append, List.mem_singleton] at hy
    rcases hy with (hy | hy) | hy
    · obtain ⟨g1, g2⟩ := ord_bd l lo (some x) h3 y hy
      refine ⟨g1, fun b hb => ?_⟩
      have := g2 x rfl
      have := h2 b hb
      lia
    · subst hy; exact ⟨h1, h2⟩
    · obtain ⟨g1, g2⟩ := ord_bd r (some x) hi h4 y hy
      refine ⟨fun a ha => ?_, g2⟩
      have := g1 x rfl
      have := h1 a ha
      lia
theorem ord_l {l r : Tr} {x : Int} {lo hi : Option Int} (h : (Tr.node l x r).ord lo hi) {y : Int} (hy : y ∈ l.keys) : y < x := (ord_bd l lo (some x) h.2.2.1 y hy).2 x rfl
theorem ord_r {l r : Tr} {x : Int} {lo hi : Option Int} (h : (Tr.node l x r).ord lo hi) {y : Int} (hy : y ∈ r.keys) : x < y := (ord_bd r (some x) hi h.2.2.2 y hy).1 x rfl
theorem ord_rise : ∀ (t : Tr) (lo hi : Option Int), t.ord lo hi → t.keys.Pairwise (· < ·)
  | .nil, _, _, _ => by simp [Tr.keys]
  | .node l x r, lo, hi, h => by
    have g1 := ord_rise l _ _ h.2.2.1
    have g2 := ord_rise r _ _ h.2.2.2
    rw [Tr.keys, List.append_assoc, List.pairwise_append]
    refine ⟨g1, ?_, fun a ha b hb => ?_⟩
    · rw [List.singleton_append, List.pairwise_cons]
      exact ⟨fun b hb => ord_r h hb, g2⟩
    · have := ord_l h ha
      rw [List.singleton_append] at hb
      rcases List.mem_cons.mp hb with rfl | hb
      · exact this
      · have := ord_r h hb; lia
end L3
namespace L3
open PySem L2
namespace Tr
end Tr
end L3
namespace HS
open PySem PySem.W PySem.Calls PyProof.Rows
section
variable {prog : Program} {w : World} {A : Around} {E : Value → Shared → Prop} {s : Shared} {T : String} {r d : Addr} {n : Nat} {P : Nat → Value → Prop} {OK : Heap → Prop}
end
end HS
namespace L3
open PySem PySem.Spec PyProof.Rows L2
section
variable {X : Cx}
end
end L3
namespace L3
open PySem L2
theorem join {G : Prop} {N : L2.St → Hp → Prop} (M : L2.St → Hp → Prop) (h2 : (∀ σ H, M σ H → N σ H) → G) (h1 : ∀ σ H, M σ H → N σ H) : G := h2 h1
end L3
namespace L3
open PySem L2
noncomputable def unI : V → Int
  | .int i => i
  | _ => 0
end L3
namespace L3
open PySem L2
noncomputable def ddS (acc : List Int) (n : Int) : List Int := if n ∈ acc then acc else acc ++ [n]
noncomputable def dd (ws : List Int) : List Int := ws.foldl ddS []
end L3
namespace L3
open PySem PySem.Spec PyProof.Rows L2
section
variable {X : Cx}
end
end L3
namespace L3
open PySem PySem.Spec PyProof.Rows L2
section
variable {X : Cx}
end
end L3
namespace L3
open PySem PySem.Spec PyProof.Rows L2
noncomputable def CalM (P : Program) (w : World) (K : PySem.W.Frag) (mg : Str → Option Value) (base : Heap) (CX : CXT) (k : Nat) (C : Addr) (m : Str) (sp : Sp) : Prop :=
  ∃ f fd ps, FnOk P w K mg base CX k f fd ps sp ∧ Cls K C ∧ Meth K C m f ∧ Binds K fd ps []
noncomputable def CalI (P : Program) (w : World) (K : PySem.W.Frag) (mg : Str → Option Value) (base : Heap) (CX : CXT) (k : Nat) (C : Addr) (x : Str) (sp : Sp) : Prop :=
  ∃ f fd ps, FnOk P w K mg base CX k f fd ps sp ∧ Mk K C f ∧ mg x = some (.ref C) ∧ Binds K fd ps []
noncomputable def tMethF (C : Addr) (m : Str) (sp : Sp) (E : XK) (ta : TE) (t : TA) : TE := fun σ H Q => ta σ H fun x H1 => ∃ a dx fs, x = .ref a ∧ H1 a = some (.ins C dx fs) ∧ fs.lookup m = none ∧ t σ H1 fun vs H2 => sp (.ref a :: vs) H2 Q E
noncomputable def tMakeF (C : Addr) (sp : Sp) (E : XK) (t : TA) : TE := fun σ H Q => t σ H fun vs H1 => ∀ x dx, H1 x = none → H1 dx = none → dx ≠ x →
  sp (.ref x :: vs) (upd (upd H1 dx (.own x)) x (.ins C dx [])) (fun v H2 => v = .non ∧ Q (.ref x) H2) E
structure FdM (K : PySem.W.Frag) (C : Addr) (x q : Str) (st : Stmt) (f : Addr) : Prop where
  ex : ∃ fd, Fun K x q st f fd
  mt : Meth K C x f
theorem fdm_mk {K : PySem.W.Frag} {C f : Addr} {x q : Str} {st : Stmt} {oc : Value} {od an : Option Addr} {osl : Array (Option Value)} {kV doc pm cdv ct : Value} (a : PySem.W.findIn K (.ref C) x = some (some (.ref f))) (i : PySem.W.isFn K (.ref f) = true)
    (l : K.lookup f = some ⟨oc, od, .func (PySem.W.fnOf x q (defArgs st) (defBody st) (defScope st) .none kV doc pm an cdv ct), osl⟩) (c : PySem.W.codeIn K cdv q = true) (k : PySem.W.keepIn K (.ref f) = true) : FdM K C x q st f := ⟨⟨_, fun_mk l c k⟩, ⟨a, i, k⟩⟩
section
variable {P : Program} {w : World} {K : PySem.W.Frag} {mg : Str → Option Value} {base : Heap} {C f : Addr} {x q : Str} {st : Stmt} {N ps : List Str} {k : Nat} {sp : Sp}
theorem FdM.cal (F : FdM K C x q st f) (c : Cls K C) (S : FnScope N ps (defScope st))
    (hb : ∀ (kV doc pm : Value) (an : Option Addr) (cdv ct : Value) (us : List Value), us.length = ps.length → bindArgs (PySem.W.fnOf x q (defArgs st) (defBody st) (defScope st) .none kV doc pm an cdv ct) ⟨us, []⟩ = pure (ps.zip us))
    (len : ∀ vs H Q E, sp vs H Q E → vs.length = ps.length)
    (hbody : ∀ (cdv : Value) (A : Around) (outer : List Env) (s : Shared) (H : Hp) (vs : List V) (Q : VK) (E : XK), Room k (A.deeper (envOfC q (defScope st) s.heap.objs.size f cdv)) → sp vs H Q E →
      ∃ t, QSs (cxOf CX0 P w K mg base N q (defScope st) f cdv A outer s H E).nox (defBody st) t ∧ t { nx := fun _ H' => Q .non H', rt := Q } (start N vs) H) : CalM P w K mg base CX0 (k + 1) C x sp := by
  obtain ⟨⟨fd, F1⟩, F2⟩ := F
  refine ⟨f, fd, ps, F1.ok S len (fun cdv A outer s H vs Q E hr h => ?_), c, F2, F1.binds hb⟩
  obtain ⟨t, p, q⟩ := hbody cdv A outer s H vs Q E hr h
  exact ⟨t, p.un, q⟩
theorem FdM.calE (F : FdM K C x q st f) (c : Cls K C) (S : FnScope N ps (defScope st))
    (hb : ∀ (kV doc pm : Value) (an : Option Addr) (cdv ct : Value) (us : List Value), us.length = ps.length → bindArgs (PySem.W.fnOf x q (defArgs st) (defBody st) (defScope st) .none kV doc pm an cdv ct) ⟨us, []⟩ = pure (ps.zip us))
    (len : ∀ vs H Q E, sp vs H Q E → vs.length = ps.length)
    (hbody : ∀ (cdv : Value) (A : Around) (outer : List Env) (s : Shared) (H : Hp) (vs : List V) (Q : VK) (E : XK), Room k (A.deeper (envOfC q (defScope st) s.heap.objs.size f cdv)) → sp vs H Q E →
      ∃ t, QSs (cxOf (CXE P w) P w K mg base N q (defScope st) f cdv A outer s H E) (defBody st) t ∧ t { nx := fun _ H' => Q .non H', rt := Q } (start N vs) H) : CalM P w K mg base (CXE P w) (k + 1) C x sp := by
  obtain ⟨⟨fd, F1⟩, F2⟩ := F
  refine ⟨f, fd, ps, ?_, c, F2, F1.binds hb⟩
  obtain ⟨oc, od, kV, doc, pm, an, cdv, ct, osl, rfl, lk, hcd⟩ := F1.ex
  refine fn_of lk hcd S len fun A outer s H vs Q E hr hsp => ?_
  obtain ⟨t, p, q⟩ := hbody cdv A outer s H vs Q E hr hsp
  exact ⟨t, p.un, q⟩
theorem CalM.mono {CX : CXT} {j k : Nat} {m : Str} (c : CalM P w K mg base CX j C m sp) (h : j ≤ k) : CalM P w K mg base CX k C m sp := by
  obtain ⟨f, fd, ps, F, r⟩ := c
  exact ⟨f, fd, ps, F.mono h, r⟩
theorem CalM.make {CX : CXT} (c : CalM P w K mg base CX k C "__init__" sp) (mk : PySem.W.makesIn K C = true) (kc : PySem.W.keepIn K (.ref C) = true) (hm : mg x = some (.ref C)) : CalI P w K mg base CX k C x sp := by
  obtain ⟨f, fd, ps, F, _, M, b⟩ := c
  exact ⟨f, fd, ps, F, ⟨mk, M.at_, M.fn, kc⟩, hm, b⟩
theorem Cal.alias {CX : CXT} {y : Str} {g : Addr} (c : Cal P w K mg base CX k x sp) (h : mg x = some (.ref g)) (h' : mg y = some (.ref g)) : Cal P w K mg base CX k y sp := by
  obtain ⟨f, fd, ps, F, e, r⟩ := c
  exact ⟨f, fd, ps, F, by rw [h', ← h, e], r⟩
end
section
variable {X : Cx}
theorem qfld {e : Expr} {f : Str} {pos : Pos} {ta : TE} (K : PySem.W.Frag) (he : QE X e ta) (hb : attributeBase e f X.env (eval e X.env) = eval e X.env := by rfl) (hK : X.K = K := by rfl) : QE X (.Attribute e f pos) (tFld K ta f) := by
  subst hK; exact .mk (pe_fld he.un hb)
theorem sfld {o value : Expr} {f : Str} {pos pos' : Pos} {ta tv : TE} (K : PySem.W.Frag) (ha : QE X o ta) (hv : QE X value tv) (hs : swapsWith value (some (.Attribute o f pos')) pos.line X.env = pure false := by rfl) (hK : X.K = K := by rfl) :
    QS X (.Assign [.Attribute o f pos'] value pos) (sFld K ta tv f) := by subst hK; exact .mk (ps_fld ha.un hv.un hs)
theorem qmeth {CX : CXT} {k : Nat} {C : Addr} {m : Str} {sp : Sp} {E : XK} {o e : Expr} {es : List Expr} {ta : TE} {t : TA} {apos pos : Pos} {pl : Sem Bool} (c : CalM X.prog X.w X.K X.mg X.base CX k C m sp) (hr : Room k X.A) (hx : Passes CX X E) (he : QE X o ta) (ha : QA X (e :: es) t)
    (hst : starEach (e :: es) X.env = (false, eval e X.env) :: starEach es X.env := by rfl) (hpl : (backTo pos (starEach es X.env)).any (·.1) = false := by rfl)
    (ht : eval (.Call (.Attribute o m apos) (e :: es) [] pos) X.env = (do
      let ov ← eval o X.env
      standAt apos.atName
      let (f, first) ← holding [ov] (getMethod ov m pl)
      callWith pos f first (backTo pos (starEach (e :: es) X.env)) (backToKw pos (keywordEach [] X.env))) := by rfl) :
    QE X (.Call (.Attribute o m apos) (e :: es) [] pos) (tMethF C m sp E ta t) := by
  obtain ⟨f, fd, ps, F, cl, M, b⟩ := c
  refine .mk fun pins s σ H Q I h => ?_
  refine pe_meth (dvs := []) (ds := []) he.un cl M F hr b .nil hx ha.un hst hpl ht pins s σ H Q I ?_
  have e1 : ∀ vs : List V, vs ++ [] = vs := List.append_nil
  unfold tMeth
  unfold tMethF at h
  have e2 : (fun (x : V) (H1 : Hp) => ∃ a dx fs, x = V.ref a ∧ H1 a = some (.ins C dx fs) ∧ fs.lookup m = none ∧ t σ H1 fun vs H2 => sp (x :: (vs ++ [])) H2 Q E) = (fun (x : V) (H1 : Hp) => ∃ a dx fs, x = V.ref a ∧ H1 a = some (.ins C dx fs) ∧ fs.lookup m = none ∧ t σ H1 fun vs H2 => sp (.ref a :: vs) H2 Q E) := by
    funext x H1
    refine propext ⟨?_, ?_⟩
    · rintro ⟨a, dx, fs, rfl, z⟩
      refine ⟨a, dx, fs, rfl, ?_⟩
      simpa only [e1] using z
    · rintro ⟨a, dx, fs, rfl, z⟩
      refine ⟨a, dx, fs, rfl, ?_⟩
      simpa only [e1] using z
  rw [e2]
  exact h
theorem qmeth0 {CX : CXT} {k : Nat} {C : Addr} {m : Str} {sp : Sp} {E : XK} {o : Expr} {ta : TE} {apos pos : Pos} {pl : Sem Bool} (c : CalM X.prog X.w X.K X.mg X.base CX k C m sp) (hr : Room k X.A) (hx : Passes CX X E) (he : QE X o ta)
    (ht : eval (.Call (.Attribute o m apos) [] [] pos) X.env = (do
      let ov ← eval o X.env
      standAt apos.atName
      let (f, first) ← holding [ov] (getMethod ov m pl)
      callWith pos f first (backTo pos (starEach [] X.env)) (backToKw pos (keywordEach [] X.env))) := by rfl) :
    QE X (.Call (.Attribute o m apos) [] [] pos) (tMethF C m sp E ta tNil) := by
  obtain ⟨f, fd, ps, F, cl, M, b⟩ := c
  refine .mk fun pins s σ H Q I h => ?_
  refine pe_meth0 (dvs := []) (ds := []) he.un cl M F hr b .nil hx ht pins s σ H Q I ?_
  unfold tMeth
  unfold tMethF at h
  have e2 : (fun (x : V) (H1 : Hp) => ∃ a dx fs, x = V.ref a ∧ H1 a = some (.ins C dx fs) ∧ fs.lookup m = none ∧ tNil σ H1 fun vs H2 => sp (x :: (vs ++ [])) H2 Q E) = (fun (x : V) (H1 : Hp) => ∃ a dx fs, x = V.ref a ∧ H1 a = some (.ins C dx fs) ∧ fs.lookup m = none ∧ tNil σ H1 fun vs H2 => sp (.ref a :: vs) H2 Q E) := by
    funext x H1
    refine propext ⟨?_, ?_⟩
    · rintro ⟨a, dx, fs, rfl, z⟩
      exact ⟨a, dx, fs, rfl, z⟩
    · rintro ⟨a, dx, fs, rfl, z⟩
      exact ⟨a, dx, fs, rfl, z⟩
  rw [e2]
  exact h
theorem qmake {CX : CXT} {k : Nat} {C : Addr} {x : Str} {sp : Sp} {E : XK} {e : Expr} {es : List Expr} {t : TA} {p pos : Pos} (c : CalI X.prog X.w X.K X.mg X.base CX k C x sp) (hr : Room (k + 1) X.A) (hx : Passes CX X E) (hg : Gl X x) (ha : QA X (e :: es) t)
    (hdb : (x == ("__debug__" : Str)) = false := by decide) (he : starEach (e :: es) X.env = (false, eval e X.env) :: starEach es X.env := by rfl) (hpl : (backTo pos (starEach es X.env)).any (·.1) = false := by rfl) :
    QE X (.Call (.Name x p) (e :: es) [] pos) (tMakeF C sp E t) := by
  obtain ⟨f, fd, ps, F, M, hm, b⟩ := c
  refine .mk fun pins s σ H Q I h => ?_
  refine pe_make (dvs := []) (ds := []) M F hr hg hm b .nil hx ha.un hdb he hpl pins s σ H Q I ?_
  unfold tMake
  simp only [List.append_nil]
  exact h
noncomputable def xIf (tc : TT) (t1 t2 : TX) : TX := fun D EX σ H => tc σ H fun b H1 => if b = true then t1 D EX σ H1 else t2 D EX σ H1
theorem xif {c : Expr} {b1 b2 : List Stmt} {tc : TT} {t1 t2 : TX} {pos : Pos} (hc : QT X.nox c tc) (h1 : QX X b1 t1) (h2 : QX X b2 t2) : QX X [.If c b1 b2 pos] (xIf tc t1 t2) := by
  refine .mk fun pins s σ H D EX I h => ?_
  refine wpAny_execs_cons (wpAny_If (wpAny_mono (hc.un pins s σ H _ (I.wish _) h) (fun d s1 ⟨H1, I1, q1⟩ => ?_) fun _ _ z => False.elim z))
  have fin : ∀ (sts : List Stmt) (t : TX), QX X sts t → t D EX σ H1 → wpAny (model X.prog X.w) X.A (execs sts X.env) (fun f s2 => match f with | .next => wpAny (model X.prog X.w) X.A (execs [] X.env) (SP X pins D) (Flown X pins EX) s2 | f => SP X pins D f s2) (Flown X pins EX) s1 := fun sts t hq hw =>
    wpAny_mono (hq.un pins s1 σ H1 D EX I1.unwish hw) (fun fl s2 q => by
      cases fl with
      | next => exact wpAny_execs_nil q
      | ret u => exact q
      | brk => exact q
      | cont => exact q) fun _ _ z => z
  cases d with
  | true => exact fin b1 t1 h1 q1
  | false => exact fin b2 t2 h2 q1
noncomputable def xMeth (C : Addr) (m : Str) (sp : Sp) (ta : TE) (t : TA) : TX := fun D EX σ H => ta σ H fun x H1 => ∃ a dx fs, x = .ref a ∧ H1 a = some (.ins C dx fs) ∧ fs.lookup m = none ∧ t σ H1 fun vs H2 => sp (.ref a :: vs) H2 (fun _ H3 => D.nx σ H3) (fun c _ H3 => EX σ c H3)
theorem xmeth {k : Nat} {C : Addr} {m : Str} {sp : Sp} {o e : Expr} {es : List Expr} {ta : TE} {t : TA} {apos pos ep : Pos} {pl : Sem Bool} (c : CalM X.prog X.w X.K X.mg X.base (CXE X.prog X.w) k C m sp) (hr : Room k X.A) (ho : QE X.nox o ta) (ha : QA X.nox (e :: es) t)
    (he : starEach (e :: es) X.env = (false, eval e X.env) :: starEach es X.env := by rfl) (hpl : (backTo pos (starEach es X.env)).any (·.1) = false := by rfl)
    (hs : swapsWith (.Call (.Attribute o m apos) (e :: es) [] pos) none ep.line X.env = pure false := by rfl)
    (ht : eval (.Call (.Attribute o m apos) (e :: es) [] pos) X.env = (do
      let ov ← eval o X.env
      standAt apos.atName
      let (f, first) ← holding [ov] (getMethod ov m pl)
      callWith pos f first (backTo pos (starEach (e :: es) X.env)) (backToKw pos (keywordEach [] X.env))) := by rfl) :
    QX X [.Expr (.Call (.Attribute o m apos) (e :: es) [] pos) ep] (xMeth C m sp ta t) := by
  refine .mk fun pins s σ H D EX I h => ?_
  obtain ⟨f, fd, ps, F, cl, M, hb⟩ := c
  refine wpAny_execs_cons (wpAny_Expr_any ?_ I.quiet hs)
  refine PySem.W.methodCall_KW (pl := pl) (wpAny_mono (ho.un pins s σ H _ (I.wish _) h) (fun u s1 ⟨x, H1, I1, rx, a, dx, fs, ex, ea, l, q⟩ => ?_) fun _ _ z => False.elim z) ht
  have I1 : Inv X pins σ H1 s1 := I1.unwish
  subst ex
  obtain rfl : u = Value.ref a := rx
  refine getmeth_ok I1 ea cl M l ?_
  refine PySem.W.callWith_K (first := [.ref a]) (h₀ := X.base) I.ok.mod.kin M.kp (wpAny_mono (PA.nox ha.un pos I1 q) (fun us s2 ⟨vs, H2, I2, r, q2⟩ => ⟨I2.kIn, ?_⟩) fun _ _ z => z) he hpl
  have r2 : Vals (.ref a :: vs) (.ref a :: us) := .cons rfl r
  have hl : (Value.ref a :: us).length = ps.length := by rw [← r2.length]; exact F.len _ _ _ _ q2
  have hbb := hb s2 (.ref a :: us) I2.kIn (by rw [List.append_nil]; exact hl)
  rw [List.append_nil] at hbb
  refine wpAny_call (codeAny_mono (F.run X.A X.stack s2 H2 ⟨.ref a :: us, []⟩ (.ref a :: us) (.ref a :: vs) _ _ hr I2.env0 hbb r2 q2) fun r s' hq => ?_)
  cases r with
  | error e => exact ⟨σ, H2, s2, I2, hq⟩
  | ok fl =>
    cases fl with
    | ret u =>
      obtain ⟨v, H', I', r', q'⟩ := I2.after hq
      exact wpAny_execs_nil ⟨σ, H', I', q'⟩
    | next => exact False.elim hq
    | brk => exact False.elim hq
    | cont => exact False.elim hq
noncomputable def tTryN (K : PySem.W.Frag) (CL : Addr) (tb : TX) (ts : TS) : TS := fun D σ H => tb D (fun σ1 c H1 => PySem.W.exmOne K c (.ref CL) = some true ∧ ts { nx := D.nx, rt := D.rt } σ1 H1) σ H
theorem stryN {body : List Stmt} {tb : TX} {x : Str} {CL : Addr} {b0 : Stmt} {suite : List Stmt} {ts : TS} {np hpos pos : Pos} (K : PySem.W.Frag) (hb : QX X body tb) (hg : Gl X x) (hm : X.mg x = some (.ref CL))
    (hst : X.stack = X.env :: X.outer) (hfr : X.env.frame = some X.env.locals) (hs : ∀ e, QSs (marked X e) (b0 :: suite) ts) (hdb : (x == ("__debug__" : Str)) = false := by decide) (hK : X.K = K := by rfl) :
    QS X (.Try body [.ExceptHandler (some (.Name x np)) none (b0 :: suite) hpos] [] [] pos) (tTryN K CL tb ts) := by
  subst hK
  refine .mk fun pins s σ H D I h => ?_
  refine wpAny_Try_except (wpAny_mono (hb.un pins s σ H D _ I h) (fun fl s1 q => ?_) fun e s1 q => ?_)
  · cases fl with
    | next => exact wpAny_execs_nil q
    | ret u => exact q
    | brk => exact q
    | cont => exact q
  obtain ⟨σ1, H1, s0, I1, ea, t, C, B, H', rfl, os, bare, un, hok, new, fre, fly, hB, hmat, hq⟩ := q
  have Ia : Inv X pins σ1 H' s1 := I1.call' os un hok bare (fun b z => absurd z (by simp))
  have hA : X.A.frames = some (X.env :: X.outer) := by rw [← hst]; exact I.ok.frames
  have land : ∀ h2, B.StaysIn h2 → s1.heap.UpToSlots h2 → Un (frs X.stack) [] H1 H' s0.heap h2 ∧ HOk X.prog X.w H' h2 ∧ Kept (frs X.stack) H' s0.heap h2 B := fun h2 z1 z2 => fly_un un hok (inv_stack Ia) hB z1 z2
  rw [hst] at fly
  refine wpAny_looks_onW hA hfr fly fun h4 held4 up4 => ?_
  refine wpAny_landsW held4 fun h5 fly5 up5 => ?_
  have up15 := up4.trans up5
  obtain ⟨un5, hok5, _⟩ := land h5 fly5.1 up15
  have I5 : Inv X pins σ1 H' { s1 with heap := h5 } := I1.call' (s' := { s1 with heap := h5 }) os un5 hok5 bare (fun b z => absurd z (by simp))
  refine wpAny_handleBy_cons (codeAny_handlers_test (ld_globA I5 hg hm ?_ hdb)) (by intro q; cases q)
  refine (PySem.W.exm_one I5.kIn (exc_ty fly5.there) hmat).here ?_
  refine codeAny_handlers_suite ?_
  refine lands_againW fly5 fun h6 fly6 up6 => ?_
  obtain ⟨un6, hok6, _⟩ := land h6 fly6.1 (up15.trans up6)
  have I7 : Inv X pins σ1 H' { s1 with heap := h6 } := I1.call' (s' := { s1 with heap := h6 }) os un6 hok6 bare (fun b z => absurd z (by simp))
  refine wpAny_mono ((hs ea).un pins _ _ _ _ (inv_marked I7 ea) hq) (fun fl s9 q9 => ?_) fun _ _ z => False.elim z
  cases fl with
  | next =>
    obtain ⟨σ', H9, I9, q9⟩ := q9
    exact ⟨σ', H9, inv_unmarked I7.ok I9, q9⟩
  | ret u =>
    obtain ⟨v, σ', H9, I9, r9, q9⟩ := q9
    exact ⟨v, σ', H9, inv_unmarked I7.ok I9, r9, q9⟩
  | brk =>
    obtain ⟨_, _, _, q9⟩ := q9
    exact False.elim q9
  | cont =>
    obtain ⟨_, _, _, q9⟩ := q9
    exact False.elim q9
end
end L3
namespace K41
open PySem L2 L3
noncomputable def top (i : Nat) : Stmt := PySem.Challenge.pw_leafpages_k41_whole_as_made_anew.main.body.getD i (.Pass ⟨0, 0, 0, 0⟩)
noncomputable abbrev s_keys_of : Stmt := top 7
theorem sc_keys_of : FnScope ["tree"] ["tree"] (defScope s_keys_of) := ⟨rfl, rfl, rfl, by decide +kernel, rfl, by decide +kernel, by decide +kernel⟩
noncomputable abbrev s_with_kids : Stmt := top 8
theorem sc_with_kids : FnScope ["tree", "kids"] ["tree"] (defScope s_with_kids) := ⟨rfl, rfl, rfl, by decide +kernel, rfl, by decide +kernel, by decide +kernel⟩
noncomputable abbrev s_side_towards : Stmt := top 9
theorem sc_side_towards : FnScope ["tree", "key"] ["tree", "key"] (defScope s_side_towards) := ⟨rfl, rfl, rfl, by decide +kernel, rfl, by decide +kernel, by decide +kernel⟩
noncomputable abbrev s_knot_at : Stmt := top 10
theorem sc_knot_at : FnScope ["tree", "key"] ["tree", "key"] (defScope s_knot_at) := ⟨rfl, rfl, rfl, by decide +kernel, rfl, by decide +kernel, by decide +kernel⟩
noncomputable abbrev s_with_key : Stmt := top 11
theorem sc_with_key : FnScope ["tree", "key"] ["tree", "key"] (defScope s_with_key) := ⟨rfl, rfl, rfl, by decide +kernel, rfl, by decide +kernel, by decide +kernel⟩
noncomputable abbrev s_put : Stmt := top 12
theorem sc_put : FnScope ["tree", "key"] ["tree", "key"] (defScope s_put) := ⟨rfl, rfl, rfl, by decide +kernel, rfl, by decide +kernel, by decide +kernel⟩
noncomputable abbrev s_without_key : Stmt := top 14
theorem sc_without_key : FnScope ["tree", "key", "heir"] ["tree", "key"] (defScope s_without_key) := ⟨rfl, rfl, rfl, by decide +kernel, rfl, by decide +kernel, by decide +kernel⟩
noncomputable abbrev s_taken : Stmt := top 15
theorem sc_taken : FnScope ["tree", "key"] ["tree", "key"] (defScope s_taken) := ⟨rfl, rfl, rfl, by decide +kernel, rfl, by decide +kernel, by decide +kernel⟩
noncomputable abbrev s_pages_tied : Stmt := top 17
theorem sc_pages_tied : FnScope ["tree", "tied", "pages", "key", "kids", "page", "kid"] ["tree", "tied"] (defScope s_pages_tied) := ⟨rfl, rfl, rfl, by decide +kernel, rfl, by decide +kernel, by decide +kernel⟩
noncomputable abbrev s_mark_from : Stmt := top 19
theorem sc_mark_from : FnScope ["kid_marks", "room", "level", "size"] ["kid_marks", "room"] (defScope s_mark_from) := ⟨rfl, rfl, rfl, by decide +kernel, rfl, by decide +kernel, by decide +kernel⟩
noncomputable abbrev s_marks_by_key : Stmt := top 20
theorem sc_marks_by_key : FnScope ["tree", "room", "told", "key", "kids"] ["tree", "room"] (defScope s_marks_by_key) := ⟨rfl, rfl, rfl, by decide +kernel, rfl, by decide +kernel, by decide +kernel⟩
noncomputable abbrev s_marks : Stmt := top 21
theorem sc_marks : FnScope ["tree", "room", "told"] ["tree", "room"] (defScope s_marks) := ⟨rfl, rfl, rfl, by decide +kernel, rfl, by decide +kernel, by decide +kernel⟩
noncomputable abbrev s_tied_pairs : Stmt := top 22
theorem sc_tied_pairs : FnScope ["tree", "told", "pairs", "key", "kids"] ["tree", "told"] (defScope s_tied_pairs) := ⟨rfl, rfl, rfl, by decide +kernel, rfl, by decide +kernel, by decide +kernel⟩
noncomputable abbrev s_by_marks : Stmt := top 23
theorem sc_by_marks : FnScope ["tree", "room", "pairs"] ["tree", "room"] (defScope s_by_marks) := ⟨rfl, rfl, rfl, by decide +kernel, rfl, by decide +kernel, by decide +kernel⟩
noncomputable abbrev s_top_level : Stmt := top 24
theorem sc_top_level : FnScope ["tree", "told"] ["tree", "told"] (defScope s_top_level) := ⟨rfl, rfl, rfl, by decide +kernel, rfl, by decide +kernel, by decide +kernel⟩
noncomputable abbrev s_worst_by_marks : Stmt := top 25
theorem sc_worst_by_marks : FnScope ["tree", "room"] ["tree", "room"] (defScope s_worst_by_marks) := ⟨rfl, rfl, rfl, by decide +kernel, rfl, by decide +kernel, by decide +kernel⟩
noncomputable abbrev s_ties : Stmt := top 27
theorem sc_ties : FnScope ["tree", "room"] ["tree", "room"] (defScope s_ties) := ⟨rfl, rfl, rfl, by decide +kernel, rfl, by decide +kernel, by decide +kernel⟩
noncomputable abbrev s_come_and_gone : Stmt := top 28
theorem sc_come_and_gone : FnScope ["before", "after", "room", "ties_before", "ties_after", "come", "gone"] ["before", "after", "room"] (defScope s_come_and_gone) := ⟨rfl, rfl, rfl, by decide +kernel, rfl, by decide +kernel, by decide +kernel⟩
noncomputable abbrev s_law_pen : Stmt := top 31
theorem sc_law_pen : FnScope ["_law_script", "_law_k", "_law_cell"] ["_law_script", "_law_k"] (defScope s_law_pen) := ⟨rfl, rfl, rfl, by decide +kernel, rfl, by decide +kernel, by decide +kernel⟩
noncomputable abbrev s_law_draw : Stmt := top 32
theorem sc_law_draw : FnScope ["_law_pen_here", "_law_many", "_law_found", "_law_mixed"] ["_law_pen_here", "_law_many"] (defScope s_law_draw) := ⟨rfl, rfl, rfl, by decide +kernel, rfl, by decide +kernel, by decide +kernel⟩
noncomputable abbrev s_law_deed : Stmt := top 33
theorem sc_law_deed : FnScope ["_law_shelf", "_law_way", "_law_key", "_law_done"] ["_law_shelf", "_law_way", "_law_key"] (defScope s_law_deed) := ⟨rfl, rfl, rfl, by decide +kernel, rfl, by decide +kernel, by decide +kernel⟩
noncomputable abbrev s_law_led : Stmt := top 34
theorem sc_law_led : FnScope ["_law_before", "_law_ends", "_law_behind", "_law_came", "_law_went"] ["_law_before", "_law_ends", "_law_behind"] (defScope s_law_led) := ⟨rfl, rfl, rfl, by decide +kernel, rfl, by decide +kernel, by decide +kernel⟩
noncomputable abbrev s_law_stands : Stmt := top 35
theorem sc_law_stands : FnScope ["_law_shelf", "_law_room", "_law_tree", "_law_table", "_law_level"] ["_law_shelf", "_law_room"] (defScope s_law_stands) := ⟨rfl, rfl, rfl, by decide +kernel, rfl, by decide +kernel, by decide +kernel⟩
noncomputable abbrev s_law_step : Stmt := top 36
theorem sc_law_step : FnScope ["_law_shelf", "_law_room", "_law_way", "_law_key", "_law_tree", "_law_before", "_law_ends", "_law_worst_then", "_law_done", "_law_more"] ["_law_shelf", "_law_room", "_law_way", "_law_key"] (defScope s_law_step) := ⟨rfl, rfl, rfl, by decide +kernel, rfl, by decide +kernel, by decide +kernel⟩
noncomputable abbrev s_law : Stmt := top 37
theorem sc_law : FnScope ["_law_script", "_law_pen_here", "_law_room", "_law_shelf", "_law_other", "_law_wide", "_law_keys", "_law_k", "_law_key", "_law_odd", "_law_way"] ["_law_script"] (defScope s_law) := ⟨rfl, rfl, rfl, by decide +kernel, rfl, by decide +kernel, by decide +kernel⟩
noncomputable abbrev s_Shelf___init__ : Stmt := inClass (top 29) 0
theorem sc_Shelf___init__ : FnScope ["self", "room"] ["self", "room"] (defScope s_Shelf___init__) := ⟨rfl, rfl, rfl, by decide +kernel, rfl, by decide +kernel, by decide +kernel⟩
noncomputable abbrev s_Shelf_keep : Stmt := inClass (top 29) 1
theorem sc_Shelf_keep : FnScope ["self", "tree"] ["self", "tree"] (defScope s_Shelf_keep) := ⟨rfl, rfl, rfl, by decide +kernel, rfl, by decide +kernel, by decide +kernel⟩
noncomputable abbrev s_Shelf_put : Stmt := inClass (top 29) 2
theorem sc_Shelf_put : FnScope ["self", "key"] ["self", "key"] (defScope s_Shelf_put) := ⟨rfl, rfl, rfl, by decide +kernel, rfl, by decide +kernel, by decide +kernel⟩
noncomputable abbrev s_Shelf_take : Stmt := inClass (top 29) 3
theorem sc_Shelf_take : FnScope ["self", "key"] ["self", "key"] (defScope s_Shelf_take) := ⟨rfl, rfl, rfl, by decide +kernel, rfl, by decide +kernel, by decide +kernel⟩
noncomputable abbrev s_Shelf_tree : Stmt := inClass (top 29) 4
theorem sc_Shelf_tree : FnScope ["self"] ["self"] (defScope s_Shelf_tree) := ⟨rfl, rfl, rfl, by decide +kernel, rfl, by decide +kernel, by decide +kernel⟩
noncomputable abbrev s_Shelf_table : Stmt := inClass (top 29) 5
theorem sc_Shelf_table : FnScope ["self"] ["self"] (defScope s_Shelf_table) := ⟨rfl, rfl, rfl, by decide +kernel, rfl, by decide +kernel, by decide +kernel⟩
noncomputable abbrev s_Shelf_layout : Stmt := inClass (top 29) 6
theorem sc_Shelf_layout : FnScope ["self"] ["self"] (defScope s_Shelf_layout) := ⟨rfl, rfl, rfl, by decide +kernel, rfl, by decide +kernel, by decide +kernel⟩
noncomputable abbrev s_Shelf_worst : Stmt := inClass (top 29) 7
theorem sc_Shelf_worst : FnScope ["self"] ["self"] (defScope s_Shelf_worst) := ⟨rfl, rfl, rfl, by decide +kernel, rfl, by decide +kernel, by decide +kernel⟩
noncomputable abbrev s_Shelf_has : Stmt := inClass (top 29) 8
theorem sc_Shelf_has : FnScope ["self", "key"] ["self", "key"] (defScope s_Shelf_has) := ⟨rfl, rfl, rfl, by decide +kernel, rfl, by decide +kernel, by decide +kernel⟩
noncomputable abbrev s_Shelf_last : Stmt := inClass (top 29) 9
theorem sc_Shelf_last : FnScope ["self"] ["self"] (defScope s_Shelf_last) := ⟨rfl, rfl, rfl, by decide +kernel, rfl, by decide +kernel, by decide +kernel⟩
structure Tx (K : PySem.W.Frag) (mg : Str → Option Value) : Prop where
  b_len : mg "len" = none
  b_list : mg "list" = none
  b_max : mg "max" = none
  b_range : mg "range" = none
  b_sorted : mg "sorted" = none
  b_sum : mg "sum" = none
  g_MOST_KEYS : ∃ tk, mg "MOST_KEYS" = some (.int 60 tk)
noncomputable def spPen (K : PySem.W.Frag) : Sp := fun vs H Q _ => ∃ (a : Addr) (k : Int) (ns : List Int), vs = [.ref a, .int k] ∧ SqL K H a (ns.map V.int) ∧ ns.length ≤ 63 ∧ 0 ≤ k ∧ k ≤ 63 ∧ ∀ p H', H p = none → Same H H' → PenAt H' p → Q (.ref p) H'
noncomputable def spDraw : Sp := fun vs H Q _ => ∃ (p : Addr) (c : Int), vs = [.ref p, .int c] ∧ PenAt H p ∧ 0 < c ∧ c < 10 ^ 100 ∧ ∀ r H', 0 ≤ r → r < c → PenAt H' p → Same (rm p H) H' → Q (.int r) H'
section
variable {P : Program} {w : World} {K : PySem.W.Frag} {mg : Str → Option Value} {base : Heap}
theorem ok_draw {f : Addr} (F : Fd K mg "_law_draw" s_law_draw f) (T : Tx K mg) : Cal P w K mg base CX0 1 "_law_draw" spDraw := by
  refine F.cal sc_law_draw (fun _ _ _ _ _ _ us hl => L3.bind2 (fun _ _ => rfl) us hl) (fun vs H Q E h => ?_) (fun cdv A outer s H vs Q E hr h => ?_)
  · obtain ⟨p, c, rfl, _⟩ := h; rfl
  · obtain ⟨p, c, rfl, ⟨m, n, hp⟩, hc, hc2, k⟩ := h
    have hcB : CDivB m c := ⟨hc, Int.lt_trans hc2 (by decide +kernel)⟩
    refine ⟨_, (bcons (sif (tcmp (rEqq hr) (qix (xIx K) (qv 0) qint (fun _ _ => rfl)) qint (nomark _)) (bcons (sset (i := 2) sc_law_draw.nd rfl (by first | exact Or.inl rfl | exact Or.inr rfl) (qop rMod (qix (xIx K) (qv 0) qint (fun _ _ => rfl)) (qv 1)))
        (bcons (sasg (qop rDivB (qix (xIx K) (qv 0) qint (fun _ _ => rfl)) (qv 1)) (gsub (qv 0) qint xSet))
        (bone (sret (qv 2))))) bnil)
      (bcons (sasg (qop rMod (qop rAdd (qop rMul (qix (xIx K) (qv 0) qint (fun _ _ => rfl)) qint) qint) qint) (gsub (qv 0) qint xSet))
      (bcons (sset (i := 3) sc_law_draw.nd rfl (by first | exact Or.inl rfl | exact Or.inr rfl) (qop rMod (qop rMul (qop rAdd (qop rAdd (qop rMul (qop rMod (qix (xIx K) (qv 0) qint (fun _ _ => rfl)) qint) qint) (qop rDivB (qix (xIx K) (qv 0) qint (fun _ _ => rfl)) qint)) qint) qint) qint))
      (bone (sret (qop rMod (qop rDivB (qv 3) qint) (qv 1))))))), ?_⟩
    refine ⟨_, rfl, p, _, 1, _, rfl, rfl, .inl (SqL.of hp), atI_nat (j := 1) rfl, _, rfl, ?_⟩
    refine ite2 (fun _ => ?_) (fun _ => ?_)
    · refine ⟨_, rfl, p, _, 0, _, rfl, rfl, .inl (SqL.of hp), atI_nat (j := 0) rfl, _, rfl, _, _, rfl, rfl, hc, ?_⟩
      refine ⟨_, rfl, p, _, 0, _, rfl, rfl, .inl (SqL.of hp), atI_nat (j := 0) rfl, _, rfl, _, _, rfl, rfl, hcB, _, rfl, p, _, 0, 0, rfl, rfl, hp, rfl, ?_⟩
      refine ⟨_, rfl, ?_⟩
      exact k (m % c) _ (Int.emod_nonneg _ (by lia)) (Int.emod_lt_of_pos _ hc) ⟨_, _, upd_same⟩ (same_upd rm_same rm_self)
    · refine ⟨_, rfl, p, _, 0, _, rfl, rfl, .inl (SqL.of hp), atI_nat (j := 0) rfl, _, _, rfl, rfl, cmR (by decide), _, _, rfl, rfl, (show (0 : Int) < 2147483629 by decide), _, rfl, p, _, 0, 0, rfl, rfl, hp, rfl, ?_⟩
      refine ⟨_, rfl, p, _, 0, _, rfl, rfl, .inl (SqL.of upd_same), atI_nat (j := 0) rfl, _, _, rfl, rfl, (show (0 : Int) < 65521 by decide), _, _, rfl, rfl, cmR (by decide), ?_⟩
      refine ⟨_, rfl, p, _, 0, _, rfl, rfl, .inl (SqL.of upd_same), atI_nat (j := 0) rfl, _, _, rfl, rfl, ⟨by decide, by decide⟩, _, _, rfl, rfl, cmR (by decide), _, _, rfl, rfl, (show (0 : Int) < 2147483647 by decide), ?_⟩
      refine ⟨_, rfl, _, _, rfl, rfl, ⟨by decide, by decide⟩, _, rfl, _, _, rfl, rfl, hc, ?_⟩
      exact k _ _ (Int.emod_nonneg _ (by lia)) (Int.emod_lt_of_pos _ hc) ⟨_, _, upd_same⟩ (same_upd rm_same rm_self)
theorem ok_pen {f : Addr} (F : Fd K mg "_law_pen" s_law_pen f) (T : Tx K mg) : Cal P w K mg base CX0 1 "_law_pen" (spPen K) := by
  refine F.cal sc_law_pen (fun _ _ _ _ _ _ us hl => L3.bind2 (fun _ _ => rfl) us hl) (fun vs H Q E h => ?_) (fun cdv A outer s H vs Q E hr h => ?_)
  · obtain ⟨a, k, ns, rfl, _⟩ := h; rfl
  · obtain ⟨a, k, ns, rfl, ha, hl, h0, h1, q⟩ := h
    refine split 2 (fun σ' H' => H' = H ∧ ∃ cell, σ' = [some (.ref a), some (.int k), some (.int cell)]) ?h2 ?h1
    case h2 =>
      refine ⟨_, (bcons (sif (tcmp rGe (qv 2) (qop rPow qint qint) (nomark _)) (bone (sret (qlst (qcons (qv 2) (qcons qint qnil))))) bnil)
      (bone (sret (qlst (qcons (qop rAdd (qop rMul (qop rAdd (qop rMod (qv 2) qint) qint) qint) (qop rMul qint (qv 1))) (qcons qint qnil)))))), ?_⟩
      rintro σ' H' ⟨rfl, cell, rfl⟩
      refine ⟨_, rfl, _, _, rfl, rfl, ⟨by decide, by decide, by decide⟩, _, _, rfl, rfl, _, rfl, ?_⟩
      refine ite2 (fun _ => ?_) (fun _ => ?_)
      · exact ⟨_, rfl, (show 2 ≤ sizeLine by decide), fun p H' hn s1 e1 _ => q p H' hn s1 ⟨_, _, e1⟩⟩
      · exact ⟨_, rfl, _, _, rfl, rfl, (show (0 : Int) < 2147483647 by decide), _, _, rfl, rfl, cmR (by decide), _, rfl, _, _, rfl, rfl, cmL (by decide), (show 2 ≤ sizeLine by decide), fun p H' hn s1 e1 _ => q p H' hn s1 ⟨_, _, e1⟩⟩
    case h1 =>
      intro u pu hu
      refine ⟨_, (bcons (sset (i := 2) sc_law_pen.nd rfl (by first | exact Or.inl rfl | exact Or.inr rfl) (qop rAdd (qop rAdd (qop rMul (qop rMul qint (qv 1)) (qv 1)) (qop rMul qint (qv 1))) qint))
      (bcons (sif (tcmp rLt (qv 1) (qB (fLen K) rfl T.b_len bt_len (qcons (qv 0) qnil)) (nomark _)) (bone (sset (i := 2) sc_law_pen.nd rfl (by first | exact Or.inl rfl | exact Or.inr rfl) (qix (xIx K) (qv 0) (qv 1) (fun _ _ => rfl)))) (bone (sif (tcmp rGt (qB (fLen K) rfl T.b_len bt_len (qcons (qv 0) qnil)) qint (nomark _)) (bcons (sset (i := 2) sc_law_pen.nd rfl (by first | exact Or.inl rfl | exact Or.inr rfl) (qop rMod (qix (xIx K) (qv 0) (qop rMod (qv 1) (qB (fLen K) rfl T.b_len bt_len (qcons (qv 0) qnil))) (fun _ _ => rfl)) qint))
          (bone (sset (i := 2) sc_law_pen.nd rfl (by first | exact Or.inl rfl | exact Or.inr rfl) (qop rAdd (qop rMul (qv 2) (qop rAdd qint (qop rDivB (qv 1) (qB (fLen K) rfl T.b_len bt_len (qcons (qv 0) qnil))))) (qop rMul qint (qv 1)))))) bnil)))
      pu)), ?_⟩
      refine ⟨_, rfl, _, _, rfl, rfl, cmL (by decide), _, rfl, _, _, rfl, rfl, cmR ⟨by lia, by lia⟩, _, rfl, _, _, rfl, rfl, cmL (by decide), ?_⟩
      have hln : (ns.map V.int).length = ns.length := List.length_map _
      refine ⟨_, rfl, _, rfl, a, _, rfl, .inl ha, _, _, rfl, rfl, _, rfl, ?_⟩
      refine ite2 (fun hk => ?_) (fun _ => ?_)
      · have hk : k < (((ns.map V.int).length : Nat) : Int) := of_decide_eq_true hk
        obtain ⟨x, hx, _⟩ := atI_ints (ns := ns) (i := k) h0 (by rw [← hln]; exact hk)
        exact ⟨_, rfl, _, rfl, a, _, _, .int x, rfl, rfl, .inl ha, hx, hu _ _ ⟨rfl, _, rfl⟩⟩
      · refine ⟨_, rfl, a, _, rfl, .inl ha, _, _, rfl, rfl, _, rfl, ?_⟩
        refine ite2 (fun hpos => ?_) (fun _ => hu _ _ ⟨rfl, _, rfl⟩)
        have hpos : 0 < (((ns.map V.int).length : Nat) : Int) := of_decide_eq_true hpos
        obtain ⟨x, hx, _⟩ := atI_ints (ns := ns) (i := k % ((ns.map V.int).length : Int)) (Int.emod_nonneg _ (by lia)) (by rw [← hln]; exact Int.emod_lt_of_pos _ hpos)
        refine ⟨_, rfl, _, rfl, _, rfl, a, _, rfl, .inl ha, _, _, rfl, rfl, hpos, a, _, _, .int x, rfl, rfl, .inl ha, hx, _, _, rfl, rfl, (show (0 : Int) < 2147483629 by decide), ?_⟩
        have hb1 : 0 ≤ x % 2147483629 := Int.emod_nonneg _ (by decide)
        have hb2 : x % 2147483629 < 2147483629 := Int.emod_lt_of_pos _ (by decide)
        refine ⟨_, rfl, _, rfl, _, rfl, a, _, rfl, .inl ha, _, _, rfl, rfl, ⟨hpos, by rw [hln]; exact Int.lt_of_le_of_lt (show (ns.length : Int) ≤ 63 by lia) (by decide +kernel)⟩, _, _, rfl, rfl, cmL ⟨by lia, by lia⟩, _, rfl, _, _, rfl, rfl, cmL (by decide), ?_⟩
        exact hu _ _ ⟨rfl, _, rfl⟩
end
end K41
namespace K41C
open PySem L2 L3 K41
noncomputable def spKof (n : Nat) : Sp := fun vs H Q _ => ∃ (v : V) (t : Tr), vs = [v] ∧ Rep H v (Tr.d t) ∧ t.ht < n ∧ t.size ≤ 1000 ∧ ∀ r H', H r = none → Same H H' → H' r = some (.lst (t.keys.map V.int)) → Q (.ref r) H'
noncomputable def spWk (n : Nat) : Sp := fun vs H Q _ => ∃ (v : V) (t : Tr), vs = [v] ∧ Rep H v (Tr.d t) ∧ t.ht < n ∧ t.size ≤ 1000 ∧ ∀ r H' ws, H r = none → Same H H' → H' r = some (.lst ws) → (∀ x o, H x = some o → Reps (rm x H') ws (t.wk.map kidD)) → Reps H' ws (t.wk.map kidD) → Q (.ref r) H'
noncomputable def spFrom : Sp := fun vs H Q _ => ∃ (a : Addr) (ws : List V) (ks : List (Int × Int)) (room : Int), vs = [.ref a, .int room] ∧ H a = some (.lst ws) ∧ Reps H ws (ks.map pairD) ∧ ks.length ≤ 1000 ∧
  ∀ b H', Same H H' → H' b = some (.tup [.int (ruleM ks room).1, .int (ruleM ks room).2]) → Q (.ref b) H'
noncomputable def spByKey : Sp := fun vs H Q _ => ∃ (v : V) (t : Tr) (room : Int), vs = [v, .int room] ∧ Rep H v (Tr.d t) ∧ t.ht < 80 ∧ t.size ≤ 1000 ∧ t.keys.Nodup ∧ ∀ r H' kvs, H r = none → Same H H' → H' r = some (.dK kvs) → DT H' kvs (t.pt room) → Q (.ref r) H'
noncomputable def spMarks : Sp := fun vs H Q _ => ∃ (v : V) (t : Tr) (room : Int), vs = [v, .int room] ∧ Rep H v (Tr.d t) ∧ t.ht < 80 ∧ t.size ≤ 1000 ∧ t.keys.Nodup ∧ ∀ r H' ws, H r = none → Same H H' → H' r = some (.lst ws) → Reps H' ws ((t.io room).map rowD) → Q (.ref r) H'
section
variable {P : Program} {w : World} {K : PySem.W.Frag} {mg : Str → Option Value} {base : Heap}
theorem side_step {H : Hp} {v : V} {t : Tr} (h : Rep H v t.d) : (v = .non ∧ t.key? = []) ∨ ∃ a vl vr k, v = .ref a ∧ H a = some (.tup [vl, .int k, vr]) ∧ t.key? = [k] := by
  cases t with
  | nil => exact .inl ⟨rep_nil h, rfl⟩
  | node l k r => obtain ⟨a, vl, vr, rfl, e, _⟩ := rep_node h; exact .inr ⟨a, vl, vr, k, rfl, e, rfl⟩
theorem key_short (t : Tr) : t.key?.length ≤ 1 := by cases t <;> simp [Tr.key?]
theorem ok_wk {f : Addr} (F : Fd K mg "with_kids" s_with_kids f) (T : Tx K mg) : ∀ n, Cal P w K mg base CX0 n "with_kids" (spWk n) := by
  intro n
  induction n with
  | zero => exact (F.none (ps := ["tree"]) (fun _ _ _ _ _ _ us hl => L3.bind1 (fun _ => rfl) us hl) fun vs H Q E hh => by obtain ⟨v, t, _, _, h2, _⟩ := hh; lia)
  | succ n C_with_kids =>
    refine F.cal sc_with_kids (fun _ _ _ _ _ _ us hl => L3.bind1 (fun _ => rfl) us hl) (fun vs H Q E h => ?_) (fun cdv A outer s H vs Q E hr h => ?_)
    · obtain ⟨v, t, rfl, _⟩ := h; rfl
    · obtain ⟨v, t, rfl, hv, ht, hz, q⟩ := h
      refine ⟨_, (bcons (sif (tcmp rIs (qv 0) qnon (nomark _)) (bone (sret (qlst qnil))) bnil)
      (bcons (ssetC (i := 1) (sc := defScope s_with_kids) (NX := ["tree", "kids"]) ["side"] [none] rfl sc_with_kids.nd rfl rfl (iseq K (qtup (qcons (qix (xIx K) (qv 0) qint (fun _ _ => rfl)) (qcons (qix (xIx K) (qv 0) qint (fun _ _ => rfl)) qnil)))) (fun _ _ _ => (gname (i := 0) (show (["side"] : List Str).Nodup by decide +kernel) rfl (by first | exact Or.inl rfl | exact Or.inr rfl))) (fun _ _ _ => (csone (tcmp rIsNot (qv 0) qnon (nomark _)))) (fun _ _ _ => (qix (xIx K) (qv 0) qint (fun _ _ => rfl))) rfl rfl (by decide +kernel) rfl)
      (bone (sret (qop rAdd (qop rAdd (qF C_with_kids (hr.mono (by lia)) pass0 rfl (qcons (qix (xIx K) (qv 0) qint (fun _ _ => rfl)) qnil)) (qF C_with_kids (hr.mono (by lia)) pass0 rfl (qcons (qix (xIx K) (qv 0) qint (fun _ _ => rfl)) qnil))) (qlst (qcons (qtup (qcons (qix (xIx K) (qv 0) qint (fun _ _ => rfl)) (qcons (qv 1) qnil))) qnil))))))), ?_⟩
      cases t with
      | nil =>
        cases rep_nil hv
        exact ⟨_, rfl, rfl, _, rfl, (show 0 ≤ sizeLine by decide), fun r H1 n1 s1 e1 _ => q r H1 [] n1 s1 e1 (fun _ _ _ => .nil) .nil⟩
      | node l x r =>
        obtain ⟨a, vl, vr, rfl, ea, hl, hr'⟩ := rep_node hv
        simp only [Tr.ht] at ht
        simp only [Tr.size] at hz
        refine ⟨_, rfl, rfl, _, rfl, ?_⟩
        -- kids
        refine ⟨_, rfl, a, _, 0, _, rfl, rfl, .inr (SqT.of ea), atI_nat (j := 0) rfl, _, rfl, a, _, 2, _, rfl, rfl, .inr (SqT.of ea), atI_nat (j := 2) rfl, (show 2 ≤ sizeLine by decide), fun p1 H1 n1 s1 e1 _ => ?_⟩
        refine ⟨p1, rfl, .inr ⟨⟨_, SqT.of e1⟩, fun acc ha => ?_⟩⟩
        refine comp_tup (xs := [vl, vr]) (fun i ys σ H' => ∃ z, σ = [z] ∧ Same H1 H' ∧ H' acc = some (.lst ys) ∧ ys = ((([l, r] : List Tr).take i).flatMap Tr.key?).map V.int) ⟨none, rfl, same_new ha, upd_same, rfl⟩ (fun i ys σ H' hh => by obtain ⟨_, _, s', _⟩ := hh; exact SqT.of (s' _ _ e1)) ?_ ?_
        · rintro i ys y σ H2 hy hi ⟨z, rfl, s2, e2, rfl⟩
          have hyt : ∃ t : Tr, ([l, r] : List Tr)[i]? = some t ∧ Rep H2 y t.d := by
            match i, hy with
            | 0, hy => simp at hy; subst hy; exact ⟨l, rfl, (hl.mono s1).mono s2⟩
            | 1, hy => simp at hy; subst hy; exact ⟨r, rfl, (hr'.mono s1).mono s2⟩
          obtain ⟨ty, hty, gy⟩ := hyt
          have htk : (([l, r] : List Tr).take (i + 1)).flatMap Tr.key? = (([l, r] : List Tr).take i).flatMap Tr.key? ++ ty.key? := by rw [List.take_add_one, hty]; simp
          have hsm : ((([l, r] : List Tr).take i).flatMap Tr.key?).length ≤ 2 := by
            have h1 := key_short l
            have h2 := key_short r
            match i, hi with
            | 0, _ => simp
            | 1, _ => simp; lia
          rcases side_step gy with ⟨rfl, hk⟩ | ⟨b, bl, br, k, rfl, eb, hk⟩
          · refine ⟨_, rfl, rfl, _, rfl, ?_⟩
            refine cskip hi (ys := ((([l, r] : List Tr).take i).flatMap Tr.key?).map V.int) ?_
            exact ⟨_, rfl, s2, e2, by rw [htk, hk, List.append_nil]⟩
          · refine ⟨_, rfl, rfl, _, rfl, ?_⟩
            refine ⟨_, rfl, b, _, 1, _, rfl, rfl, .inr (SqT.of eb), atI_nat (j := 1) rfl, ?_⟩
            refine cpost e2 (sizeBig (by rw [List.length_map]; lia)) hi ?_
            exact ⟨_, rfl, same_upd s2 ha, upd_same, by rw [htk, hk, List.map_append]; rfl⟩
        · rintro ys σ H2 ⟨z, rfl, s2, e2, rfl⟩
          have s12 : Same H H2 := s1.trans s2
          have hks : ((([l, r] : List Tr).take [vl, vr].length).flatMap Tr.key?) = l.key? ++ r.key? := by simp
          rw [hks] at e2
          -- the lists of both sides
          refine ⟨_, rfl, a, _, 0, _, rfl, rfl, .inr (SqT.of (s12 _ _ ea)), atI_nat (j := 0) rfl, vl, l, rfl, hl.mono s12, by lia, by lia, fun r3 H3 w3 n3 s3 e3 x3 g3 => ?_⟩
          have s13 := s12.trans s3
          refine ⟨_, rfl, a, _, 2, _, rfl, rfl, .inr (SqT.of (s13 _ _ ea)), atI_nat (j := 2) rfl, vr, r, rfl, hr'.mono s13, by lia, by lia, fun r4 H4 w4 n4 s4 e4 x4 g4 => ?_⟩
          have l3 := g3.length
          have l4 := g4.length
          rw [List.length_map, Tr.wk_length] at l3 l4
          refine ⟨_, _, s4 _ _ e3, e4, sizeBig' (by lia), fun r5 H5 n5 s5 e5 _ => ?_⟩
          have s15 := (s13.trans s4).trans s5
          refine ⟨_, rfl, a, _, 1, _, rfl, rfl, .inr (SqT.of (s15 _ _ ea)), atI_nat (j := 1) rfl, _, rfl, (show 2 ≤ sizeLine by decide), fun r6 H6 n6 s6 e6 _ => ?_⟩
          refine ⟨(show 1 ≤ sizeLine by decide), fun r7 H7 n7 s7 e7 _ => ?_⟩
          refine ⟨_, _, s7 _ _ (s6 _ _ e5), e7, sizeBig' (by simp; lia), fun r8 H8 n8 s8 e8 _ => ?_⟩
          have s38 : Same H3 H8 := s4.trans (s5.trans (s6.trans (s7.trans s8)))
          have s48 : Same H4 H8 := s5.trans (s6.trans (s7.trans s8))
          refine q r8 H8 _ ((s15.trans (s6.trans s7)).free n8) (s15.trans (s6.trans (s7.trans s8))) e8 (fun y o hy => ?_) ?_
          · have y2 := s12 _ _ hy
            have y3 := s3 _ _ y2
            have y6 : y ≠ r6 := ne_of_none (s15 _ _ hy) n6
            have ya : y ≠ acc := ne_of_none (s1 _ _ hy) ha
            rw [Tr.wk, List.map_append, List.map_append]
            refine (((x3 y o y2).mono (rm_of' s38)).append ((x4 y o y3).mono (rm_of' s48))).append (.cons (.tup (by rw [rm_ne y6.symm]; exact s8 _ _ (s7 _ _ e6)) (.cons (.int x) (.cons (.lst (by rw [rm_ne ya.symm]; exact s38 _ _ (s3 _ _ e2)) ?_) .nil))) .nil)
            exact Reps.ints _
          rw [Tr.wk, List.map_append, List.map_append]
          refine ((g3.mono s38).append (g4.mono s48)).append (.cons (.tup (s8 _ _ (s7 _ _ e6)) (.cons (.int x) (.cons (.lst (s38 _ _ (s3 _ _ e2)) ?_) .nil))) .nil)
          exact Reps.ints _
theorem ok_kof {f : Addr} (F : Fd K mg "keys_of" s_keys_of f) (T : Tx K mg) : ∀ n, Cal P w K mg base CX0 n "keys_of" (spKof n) := by
  intro n
  induction n with
  | zero => exact (F.none (ps := ["tree"]) (fun _ _ _ _ _ _ us hl => L3.bind1 (fun _ => rfl) us hl) fun vs H Q E hh => by obtain ⟨v, t, _, _, h2, _⟩ := hh; lia)
  | succ n C_keys_of =>
    refine F.cal sc_keys_of (fun _ _ _ _ _ _ us hl => L3.bind1 (fun _ => rfl) us hl) (fun vs H Q E h => ?_) (fun cdv A outer s H vs Q E hr h => ?_)
    · obtain ⟨v, t, rfl, _⟩ := h; rfl
    · obtain ⟨v, t, rfl, hv, ht, hz, q⟩ := h
      refine ⟨_, (bcons (sif (tcmp rIs (qv 0) qnon (nomark _)) (bone (sret (qlst qnil))) bnil)
      (bone (sret (qop rAdd (qop rAdd (qF C_keys_of (hr.mono (by lia)) pass0 rfl (qcons (qix (xIx K) (qv 0) qint (fun _ _ => rfl)) qnil)) (qlst (qcons (qix (xIx K) (qv 0) qint (fun _ _ => rfl)) qnil))) (qF C_keys_of (hr.mono (by lia)) pass0 rfl (qcons (qix (xIx K) (qv 0) qint (fun _ _ => rfl)) qnil)))))), ?_⟩
      cases t with
      | nil =>
        cases rep_nil hv
        exact ⟨_, rfl, rfl, _, rfl, (show 0 ≤ sizeLine by decide), fun r H1 n1 s1 e1 _ => q r H1 n1 s1 e1⟩
      | node l x r =>
        obtain ⟨a, vl, vr, rfl, ea, hl, hr'⟩ := rep_node hv
        simp only [Tr.ht] at ht
        simp only [Tr.size] at hz
        refine ⟨_, rfl, rfl, _, rfl, ?_⟩
        refine ⟨_, rfl, a, _, 0, _, rfl, rfl, .inr (SqT.of ea), atI_nat (j := 0) rfl, vl, l, rfl, hl, by lia, by lia, fun r1 H1 n1 s1 e1 => ?_⟩
        refine ⟨_, rfl, a, _, 1, _, rfl, rfl, .inr (SqT.of (s1 _ _ ea)), atI_nat (j := 1) rfl, (show 1 ≤ sizeLine by decide), fun r2 H2 n2 s2 e2 _ => ?_⟩
        have kl := Tr.keys_length l
        have kr := Tr.keys_length r
        refine ⟨_, _, s2 _ _ e1, e2, sizeBig' (by simp; lia), fun r3 H3 n3 s3 e3 _ => ?_⟩
        have s13 := (s1.trans s2).trans s3
        refine ⟨_, rfl, a, _, 2, _, rfl, rfl, .inr (SqT.of (s13 _ _ ea)), atI_nat (j := 2) rfl, vr, r, rfl, hr'.mono s13, by lia, by lia, fun r4 H4 n4 s4 e4 => ?_⟩
        refine ⟨_, _, s4 _ _ e3, e4, sizeBig' (by simp; lia), fun r5 H5 n5 s5 e5 _ => ?_⟩
        refine q r5 H5 ((s13.trans s4).free n5) ((s13.trans s4).trans s5) ?_
        rw [e5]; simp [Tr.keys]
end
end K41C
namespace K41C
open PySem L2 L3 K41
section
variable {P : Program} {w : World} {K : PySem.W.Frag} {mg : Str → Option Value} {base : Heap}
theorem rule_cons {ks : List (Int × Int)} {room lv : Int} (h : ks ≠ []) (hl : lv = maxI (ks.map (·.1))) :
    ruleM ks room = if 1 + ((ks.filter fun p => decide (p.1 = lv)).map (·.2)).sum ≤ room then (lv, 1 + ((ks.filter fun p => decide (p.1 = lv)).map (·.2)).sum) else (lv + 1, 1) := by
  subst hl
  unfold ruleM
  rw [if_neg h]
theorem ok_from {f : Addr} (F : Fd K mg "mark_from" s_mark_from f) (T : Tx K mg) : Cal P w K mg base CX0 1 "mark_from" spFrom := by
  refine F.cal sc_mark_from (fun _ _ _ _ _ _ us hl => L3.bind2 (fun _ _ => rfl) us hl) (fun vs H Q E h => ?_) (fun cdv A outer s H vs Q E hr h => ?_)
  · obtain ⟨a, ws, ks, room, rfl, _⟩ := h; rfl
  · obtain ⟨a, ws, ks, room, rfl, ea, rs, hlen, q⟩ := h
    have hl := rs.length
    rw [List.length_map] at hl
    refine ⟨_, (bcons (sif (tnot (ttru K (qv 0) (fun _ => rfl))) (bone (sret (qtup (qcons qint (qcons qint qnil))))) bnil)
      (bcons (sset (i := 2) sc_mark_from.nd rfl (by first | exact Or.inl rfl | exact Or.inr rfl) (qB (fMax K) rfl T.b_max bt_max (qcons (qcomp (sc := defScope s_mark_from) (NX := ["kid_marks", "room", "level", "size"]) ["mark"] [none] rfl (iseq K (qv 0)) (fun _ _ _ => (gname (i := 0) (show (["mark"] : List Str).Nodup by decide +kernel) rfl (by first | exact Or.inl rfl | exact Or.inr rfl))) (fun _ _ _ => csnil) (fun _ _ _ => (qix (xIx K) (qv 0) qint (fun _ _ => rfl))) rfl rfl (by decide +kernel)) qnil)))
      (bcons (sset (i := 3) sc_mark_from.nd rfl (by first | exact Or.inl rfl | exact Or.inr rfl) (qop rAdd qint (qB (fSum K) rfl T.b_sum bt_sum (qcons (qcomp (sc := defScope s_mark_from) (NX := ["kid_marks", "room", "level", "size"]) ["mark", "level"] [none, some 2] rfl (iseq K (qv 0)) (fun _ _ _ => (gname (i := 0) (show (["mark", "level"] : List Str).Nodup by decide +kernel) rfl (by first | exact Or.inl rfl | exact Or.inr rfl))) (fun _ _ _ => (csone (tcmp (rEqq hr) (qix (xIx K) (qv 0) qint (fun _ _ => rfl)) (qv 1) (nomark _)))) (fun _ _ _ => (qix (xIx K) (qv 0) qint (fun _ _ => rfl))) rfl rfl (by decide +kernel)) qnil))))
      (bone (sret (qif (tcmp rLe (qv 3) (qv 1) (nomark _)) (qtup (qcons (qv 2) (qcons (qv 3) qnil))) (qtup (qcons (qop rAdd (qv 2) qint) (qcons qint qnil))))))))), ?_⟩
    refine ⟨_, rfl, _, .inl ⟨_, SqL.of ea, rfl⟩, ?_⟩
    cases ks with
    | nil =>
      cases rs
      refine ⟨(show 2 ≤ sizeLine by decide), fun b H1 n1 s1 e1 _ => ?_⟩
      exact q b H1 s1 e1
    | cons k0 ks' =>
      have hws : ws.isEmpty = false := by cases ws with
        | nil => simp at hl
        | cons _ _ => rfl
      rw [hws]
      refine iteF ?_
      generalize hks : (k0 :: ks') = ks at *
      -- level
      refine ⟨_, rfl, a, rfl, .inl ⟨⟨_, SqL.of ea⟩, fun acc ha => ?_⟩⟩
      refine comp_list (xs := ws) (fun i ys σ H' => ∃ z, σ = [z] ∧ Same H H' ∧ H' acc = some (.lst ys) ∧ ys = ((ks.take i).map (·.1)).map V.int) ⟨none, rfl, same_new ha, upd_same, rfl⟩ (fun i ys σ H' hh => by obtain ⟨_, _, s', _⟩ := hh; exact SqL.of (s' _ _ ea)) ?_ ?_
      · rintro i ys y σ H2 hy hi ⟨z, rfl, s2, e2, rfl⟩
        obtain ⟨m, hm, gm⟩ := reps_map rs hy
        obtain ⟨b, rfl, eb⟩ := rep_pair gm
        refine ⟨_, rfl, b, _, 0, _, rfl, rfl, .inr (SqT.of (s2 _ _ eb)), atI_nat (j := 0) rfl, ?_⟩
        refine cpost e2 (sizeBig (by simp; lia)) hi ?_
        exact ⟨_, rfl, same_upd s2 ha, upd_same, by rw [List.take_add_one, hm, List.map_append, List.map_append]; rfl⟩
      · rintro ys σ H2 ⟨z, rfl, s2, e2, rfl⟩
        rw [List.take_of_length_le (by lia)] at e2
        refine ⟨acc, ks.map (·.1), rfl, SqL.of e2, by rw [← hks]; simp, fun M hM1 hM2 => ?_⟩
        have hMm := maxI_spec _ M hM1 hM2
        have hne : ks ≠ [] := by rw [← hks]; simp
        have hrule := rule_cons (room := room) hne hMm
        -- size
        refine ⟨_, rfl, a, rfl, .inl ⟨⟨_, SqL.of (s2 _ _ ea)⟩, fun acc2 ha2 => ?_⟩⟩
        refine comp_list (xs := ws) (fun i ys σ H' => ∃ z, σ = [z, some (.int M)] ∧ Same H2 H' ∧ H' acc2 = some (.lst ys) ∧ ys = (((ks.take i).filter fun p => decide (p.1 = M)).map (·.2)).map V.int) ⟨none, rfl, same_new ha2, upd_same, rfl⟩ (fun i ys σ H' hh => by obtain ⟨_, _, s', _⟩ := hh; exact SqL.of (s' _ _ (s2 _ _ ea))) ?_ ?_
        · rintro i ys y σ H3 hy hi ⟨z, rfl, s3, e3, rfl⟩
          obtain ⟨m, hm, gm⟩ := reps_map rs hy
          obtain ⟨b, rfl, eb⟩ := rep_pair gm
          have eb3 := s3 _ _ (s2 _ _ eb)
          have hfl := List.length_filter_le (fun p : Int × Int => decide (p.1 = M)) (ks.take i)
          rw [List.length_take] at hfl
          have htk : (ks.take (i + 1)).filter (fun p => decide (p.1 = M)) = (ks.take i).filter (fun p => decide (p.1 = M)) ++ (if m.1 = M then [m] else []) := by
            rw [List.take_add_one, hm, List.filter_append]
            congr 1
            by_cases h : m.1 = M <;> simp [h]
          refine ⟨_, rfl, b, _, 0, _, rfl, rfl, .inr (SqT.of eb3), atI_nat (j := 0) rfl, _, rfl, _, rfl, ?_⟩
          refine ite2 (fun h => ?_) (fun h => ?_)
          · have h : m.1 = M := of_decide_eq_true h
            rw [if_pos h] at htk
            refine ⟨_, rfl, b, _, 1, _, rfl, rfl, .inr (SqT.of eb3), atI_nat (j := 1) rfl, ?_⟩
            refine cpost e3 (sizeBig (by simp only [List.length_map]; lia)) hi ?_
            exact ⟨_, rfl, same_upd s3 ha2, upd_same, by rw [htk, List.map_append, List.map_append]; rfl⟩
          · have h : ¬ m.1 = M := fun z => h (decide_eq_true z)
            rw [if_neg h, List.append_nil] at htk
            refine cskip hi (ys := (((ks.take i).filter fun p => decide (p.1 = M)).map (·.2)).map V.int) ?_
            exact ⟨_, rfl, s3, e3, by rw [htk]⟩
        · rintro ys σ H3 ⟨z, rfl, s3, e3, rfl⟩
          rw [List.take_of_length_le (by lia)] at e3
          refine ⟨acc2, _, rfl, SqL.of e3, ?_⟩
          -- the end
          refine ⟨_, rfl, _, rfl, _, _, rfl, rfl, _, rfl, ?_⟩
          refine ite2 (fun h => ?_) (fun h => ?_)
          · have h := of_decide_eq_true h
            rw [if_pos h] at hrule
            refine ⟨_, rfl, _, rfl, (show 2 ≤ sizeLine by decide), fun b H4 n4 s4 e4 _ => ?_⟩
            refine q b H4 (s2.trans (s3.trans s4)) ?_
            rw [hrule]; exact e4
          · have h : ¬ _ := fun z => h (decide_eq_true z)
            rw [if_neg h] at hrule
            refine ⟨_, rfl, (show 2 ≤ sizeLine by decide), fun b H4 n4 s4 e4 _ => ?_⟩
            refine q b H4 (s2.trans (s3.trans s4)) ?_
            rw [hrule]; exact e4
theorem ok_byKey {f : Addr} (F : Fd K mg "marks_by_key" s_marks_by_key f) (T : Tx K mg) (C_with_kids : Cal P w K mg base CX0 80 "with_kids" (spWk 80)) (C_mark_from : Cal P w K mg base CX0 1 "mark_from" spFrom) : Cal P w K mg base CX0 82 "marks_by_key" spByKey := by
  refine F.cal sc_marks_by_key (fun _ _ _ _ _ _ us hl => L3.bind2 (fun _ _ => rfl) us hl) (fun vs H Q E h => ?_) (fun cdv A outer s H vs Q E hr h => ?_)
  · obtain ⟨v, t, room, rfl, _⟩ := h; rfl
  · obtain ⟨v, t, room, rfl, hv, ht, hz, hnd, q⟩ := h
    refine ⟨_, (bcons (sset (i := 2) sc_marks_by_key.nd rfl (by first | exact Or.inl rfl | exact Or.inr rfl) qdict)
      (bcons (sfor PassesOwn.never rfl (iseq K (qF C_with_kids (hr.mono (by lia)) pass0 rfl (qcons (qv 0) qnil))) (gtup (n := 2) K rfl (gscons (gname (i := 3) sc_marks_by_key.nd rfl (by first | exact Or.inl rfl | exact Or.inr rfl)) (gscons (gname (i := 4) sc_marks_by_key.nd rfl (by first | exact Or.inl rfl | exact Or.inr rfl)) gsnil)))
        (bone (sdput hr (qv 2) (qv 3) (qF C_mark_from (hr.mono (by lia)) pass0 rfl (qcons (qcomp (sc := defScope s_marks_by_key) (NX := ["tree", "room", "told", "key", "kids"]) ["kid", "told"] [none, some 2] rfl (iseq K (qv 4)) (fun _ _ _ => (gname (i := 0) (show (["kid", "told"] : List Str).Nodup by decide +kernel) rfl (by first | exact Or.inl rfl | exact Or.inr rfl))) (fun _ _ _ => csnil) (fun _ _ _ => (qdget hr (qv 1) (qv 0) (fun _ _ => rfl))) rfl rfl (by decide +kernel)) (qcons (qv 1) qnil))) rfl)))
      (bone (sret (qv 2))))), ?_⟩
    refine fun d H1 n1 s1 e1 _ => ?_
    refine ⟨_, rfl, v, t, rfl, hv.mono s1, ht, hz, fun r H2 ws n2 s2 e2 _ g2 => ?_⟩
    have ed2 := s2 _ _ e1
    have hrd : r ≠ d := fun z => by rw [z, ed2] at e2; cases e2
    have gB : Reps (rm d H2) ws (t.wk.map kidD) := Reps.apart ed2 g2 (pures_map pure_kid _)
    have eB : rm d H2 r = some (.lst ws) := by rw [rm_ne hrd]; exact e2
    have hlw := g2.length
    rw [List.length_map, Tr.wk_length] at hlw
    have hpn := Tr.pt_nodup room hnd
    have hdH : (rm d H2) d = none := rm_self
    have sHB : Same H (rm d H2) := fun b o hb => by rw [rm_ne (ne_of_none hb n1)]; exact s2 _ _ (s1 _ _ hb)
    refine ⟨r, rfl, .inl ⟨⟨_, SqL.of e2⟩, for_list (xs := ws) (fun i σ H' => ∃ z1 z2 kvs, σ = [some v, some (.int room), some (.ref d), z1, z2] ∧ Same (rm d H2) H' ∧ H' d = some (.dK kvs) ∧ DT H' kvs ((t.wk.take i).foldl (stepT room) []))
      ⟨none, none, [], rfl, rm_same, ed2, .nil⟩ (fun i σ H' _ hh => by obtain ⟨_, _, _, _, s', _⟩ := hh; exact SqL.of (s' _ _ eB)) ?_ ?_⟩⟩
    · rintro i x σ H3 hx ⟨z1, z2, kvs, rfl, s3, ed, DTT⟩
      have hi := (List.getElem?_eq_some_iff.mp hx).1
      obtain ⟨e, he, ge⟩ := reps_map gB hx
      obtain ⟨b, c, rfl, eb, ec⟩ := rep_kid ge
      have eb3 := s3 _ _ eb
      have ec3 := s3 _ _ ec
      refine ⟨b, _, rfl, SqT.of eb3, rfl, _, _, rfl, _, _, rfl, rfl, ?_⟩
      have hkeys : (((t.wk.take i).foldl (stepT room) []).map (·.1)) = (t.wk.take i).map (·.1) := by rw [step_keys]; rfl
      have hall : (t.wk.map (·.1)).Nodup := by rw [Tr.wk_keys room]; exact hpn
      have hsplit : t.wk.map (·.1) = (t.wk.take i).map (·.1) ++ e.1 :: (t.wk.drop (i + 1)).map (·.1) := by
        have h1 : t.wk = t.wk.take i ++ e :: t.wk.drop (i + 1) := by
          obtain ⟨hlt, hee⟩ := List.getElem?_eq_some_iff.mp he
          rw [← hee, List.getElem_cons_drop, List.take_append_drop]
        conv => lhs; rw [h1]
        rw [List.map_append, List.map_cons]
      rw [hsplit] at hall
      have hndt : (((t.wk.take i).foldl (stepT room) []).map (·.1)).Nodup := by rw [hkeys]; exact (List.nodup_append.mp hall).1
      have hnew : e.1 ∉ ((t.wk.take i).foldl (stepT room) []).map (·.1) := by
        rw [hkeys]
        intro hm
        exact (List.nodup_append.mp hall).2.2 _ hm _ List.mem_cons_self rfl
      have hah := ahead_at t.wk [] i e (Tr.wk_ahead t) he
      generalize htb : (t.wk.take i).foldl (stepT room) [] = tb at *
      have hlook : ∀ k ∈ e.2, ∃ m, look tb k = some m := fun k hk => by
        have h1 := hah k hk
        rw [List.nil_append, ← hkeys] at h1
        obtain ⟨en, hen, rfl⟩ := List.mem_map.mp h1
        exact ⟨en.2, look_mem hndt hen⟩
      have hle2 : e.2.length ≤ 1000 := by
        have := Tr.wk_small t e (List.mem_of_getElem? he)
        lia
      have hwl := Tr.wk_length t
      -- the kids' marks
      refine ⟨_, rfl, c, rfl, .inl ⟨⟨_, SqL.of ec3⟩, fun acc ha => ?_⟩⟩
      have hcd : acc ≠ d := fun z => by rw [z, ed] at ha; cases ha
      refine comp_list (xs := e.2.map V.int) (fun j ys σ H' => ∃ z, σ = [z, some (.ref d)] ∧ Same H3 H' ∧ H' acc = some (.lst ys) ∧ Reps H3 ys (((e.2.take j).filterMap (look tb)).map pairD)) ⟨none, rfl, same_new ha, upd_same, .nil⟩ (fun j ys σ H' hh => by obtain ⟨_, _, s', _⟩ := hh; exact SqL.of (s' _ _ ec3)) ?_ ?_
      · rintro j ys y σ H4 hy hj ⟨z, rfl, s4, e4, g4⟩
        rw [List.getElem?_map] at hy
        obtain ⟨k, hk, rfl⟩ := Option.map_eq_some_iff.mp hy
        obtain ⟨m, hm⟩ := hlook k (List.mem_of_getElem? hk)
        obtain ⟨bm, hv1, hb1⟩ := DTT.val hm
        have hg : DGet H4 d (.int k) (some (.ref bm)) := by
          have := DGet.k (k := (Sum.inl k : Key)) (s4 _ _ ed)
          rw [hv1] at this
          exact this
        refine ⟨_, rfl, _, rfl, d, .ref bm, rfl, hg, ?_⟩
        have hl4 := g4.length
        rw [List.length_map] at hl4
        have hfl := List.length_filterMap_le (look tb) (e.2.take j)
        rw [List.length_take] at hfl
        refine cpost e4 (sizeBig (by lia)) hj ?_
        refine ⟨_, rfl, same_upd s4 ha, upd_same, ?_⟩
        rw [List.take_add_one, hk, List.filterMap_append, List.map_append]
        refine g4.append ?_
        simp only [Option.toList, List.filterMap_cons, hm, List.filterMap_nil, List.map_cons, List.map_nil]
        exact .cons (pair_rep hb1) .nil
      · rintro ys σ H4 ⟨z, rfl, s4, e4, g4⟩
        rw [List.length_map, List.take_length] at g4
        have hfl := List.length_filterMap_le (look tb) e.2
        refine ⟨_, rfl, acc, ys, e.2.filterMap (look tb), room, rfl, e4, g4.mono s4, by lia, fun bm H5 s5 e5 => ?_⟩
        have ed5 := s5 _ _ (s4 _ _ ed)
        have dl := DTT.length
        have tl : tb.length = i := by
          have := congrArg List.length hkeys
          rw [List.length_map, List.length_map, List.length_take] at this
          lia
        refine ⟨_, rfl, _, rfl, d, _, rfl, DPut.k (k := (Sum.inl e.1 : Key)) ed5 (sizeBig (by lia)), ?_⟩
        refine ⟨_, _, _, rfl, same_upd (s3.trans (s4.trans s5)) hdH, upd_same, ?_⟩
        rw [List.take_add_one, he, List.foldl_append, htb]
        exact ((DTT.mono (s4.trans s5)).put hnew e5).upd ed5 (fun vs z => nomatch z)
    · rintro σ H3 ⟨z1, z2, kvs, rfl, s3, ed, DTT⟩
      refine ⟨_, rfl, ?_⟩
      refine q d H3 kvs n1 (sHB.trans s3) ed ?_
      rw [List.take_of_length_le (by rw [Tr.wk_length]; lia), Tr.fold_wk room t [] (by simpa using hpn)] at DTT
      exact DTT
theorem ok_marks {f : Addr} (F : Fd K mg "marks" s_marks f) (T : Tx K mg) (C_marks_by_key : Cal P w K mg base CX0 82 "marks_by_key" spByKey) (C_keys_of : Cal P w K mg base CX0 82 "keys_of" (spKof 82)) : Cal P w K mg base CX0 84 "marks" spMarks := by
  refine F.cal sc_marks (fun _ _ _ _ _ _ us hl => L3.bind2 (fun _ _ => rfl) us hl) (fun vs H Q E h => ?_) (fun cdv A outer s H vs Q E hr h => ?_)
  · obtain ⟨v, t, room, rfl, _⟩ := h; rfl
  · obtain ⟨v, t, room, rfl, hv, ht, hz, hnd, q⟩ := h
    refine ⟨_, (bcons (sset (i := 2) sc_marks.nd rfl (by first | exact Or.inl rfl | exact Or.inr rfl) (qF C_marks_by_key (hr.mono (by lia)) pass0 rfl (qcons (qv 0) (qcons (qv 1) qnil))))
      (bone (sret (qcomp (sc := defScope s_marks) (NX := ["tree", "room", "told"]) ["key", "told"] [none, some 2] rfl (iseq K (qF C_keys_of (hr.mono (by lia)) pass0 rfl (qcons (qv 0) qnil))) (fun _ _ _ => (gname (i := 0) (show (["key", "told"] : List Str).Nodup by decide +kernel) rfl (by first | exact Or.inl rfl | exact Or.inr rfl))) (fun _ _ _ => csnil) (fun _ _ _ => (qtup (qcons (qv 0) (qcons (qix (xIx K) (qdget hr (qv 1) (qv 0) (fun _ _ => rfl)) qint (fun _ _ => rfl)) (qcons (qix (xIx K) (qdget hr (qv 1) (qv 0) (fun _ _ => rfl)) qint (fun _ _ => rfl)) qnil))))) rfl rfl (by decide +kernel))))), ?_⟩
    refine ⟨_, rfl, _, rfl, v, t, room, rfl, hv, ht, hz, hnd, fun d H1 kvs n1 s1 e1 D1 => ?_⟩
    refine ⟨_, rfl, v, t, rfl, hv.mono s1, by lia, hz, fun r H2 n2 s2 e2 => ?_⟩
    refine ⟨r, rfl, .inl ⟨⟨_, SqL.of e2⟩, fun acc ha => ?_⟩⟩
    have s12 := s1.trans s2
    have D2 := D1.mono s2
    have hpn := Tr.pt_nodup room hnd
    have hkl := Tr.keys_length t
    have hio := Tr.io_keys room t
    have hil : (t.io room).length = t.size := by rw [← hkl, ← hio, List.length_map]
    refine comp_list (xs := t.keys.map V.int) (fun j ys σ H' => ∃ z, σ = [z, some (.ref d)] ∧ Same H2 H' ∧ H' acc = some (.lst ys) ∧ ys.length = j ∧ Reps (rm acc H') ys (((t.io room).take j).map rowD)) ⟨none, rfl, same_new ha, upd_same, rfl, .nil⟩ (fun j ys σ H' hh => by obtain ⟨_, _, s', _⟩ := hh; exact SqL.of (s' _ _ e2)) ?_ ?_
    · rintro j ys y σ H3 hy hj ⟨z, rfl, s3, e3, l3, g3⟩
      rw [List.getElem?_map] at hy
      obtain ⟨k, hk, rfl⟩ := Option.map_eq_some_iff.mp hy
      rw [← hio, List.getElem?_map] at hk
      obtain ⟨en, hen, rfl⟩ := Option.map_eq_some_iff.mp hk
      rw [List.length_map] at hj
      have hm := look_mem (k := en.1) (m := en.2) hpn (Tr.io_pt room t en (List.mem_of_getElem? hen))
      obtain ⟨bm, hv1, hb1⟩ := D2.val hm
      have hg : ∀ {H4 : Hp}, Same H2 H4 → DGet H4 d (.int en.1) (some (.ref bm)) := fun s4 => by
        have := DGet.k (k := (Sum.inl en.1 : Key)) (s4 _ _ (s2 _ _ e1))
        rw [hv1] at this
        exact this
      refine ⟨_, rfl, _, rfl, _, rfl, d, .ref bm, rfl, hg s3, bm, _, 0, _, rfl, rfl, .inr (SqT.of (s3 _ _ hb1)), atI_nat (j := 0) rfl, ?_⟩
      refine ⟨_, rfl, _, rfl, d, .ref bm, rfl, hg s3, bm, _, 1, _, rfl, rfl, .inr (SqT.of (s3 _ _ hb1)), atI_nat (j := 1) rfl, ?_⟩
      refine ⟨(show 3 ≤ sizeLine by decide), fun b4 H4 n4 s4 e4 _ => ?_⟩
      have hb4 : b4 ≠ acc := fun z => by rw [z, e3] at n4; cases n4
      refine cpost (s4 _ _ e3) (sizeBig (by lia)) (by rw [List.length_map]; exact hj) ?_
      refine ⟨_, rfl, same_upd (s3.trans s4) ha, upd_same, by simp [l3], ?_⟩
      rw [rm_upd, List.take_add_one, hen, List.map_append]
      refine (g3.mono (rm_of' s4)).append (.cons (.tup (by rw [rm_ne hb4]; exact e4) (.cons (.int _) (.cons (.int _) (.cons (.int _) .nil)))) .nil)
    · rintro ys σ H3 ⟨z, rfl, s3, e3, l3, g3⟩
      rw [List.length_map, List.take_of_length_le (by lia)] at g3
      exact q acc H3 ys (s12.free ha) (s12.trans s3) e3 (g3.mono rm_same)
end
end K41C
namespace K41C
open PySem L2 L3 K41
noncomputable def spLaw (K : PySem.W.Frag) : Sp := fun vs H Q _ => ∃ (a : Addr) (ns : List Int), vs = [.ref a] ∧ SqL K H a (ns.map V.int) ∧ ns.length ≤ 63 ∧ ∀ H', Q (.bl true) H'
section
variable {P : Program} {w : World} {K : PySem.W.Frag} {mg : Str → Option Value} {base : Heap}
end
end K41C
namespace K41C
open PySem L2 L3 K41
theorem pure_tr : ∀ t : Tr, t.d.pure = true
  | .nil => rfl
  | .node l k r => by
    show (l.d.pure && (true && (r.d.pure && true))) = true
    rw [pure_tr l, pure_tr r]; rfl
section
variable {P : Program} {w : World} {K : PySem.W.Frag} {mg : Str → Option Value} {base : Heap}
end
end K41C
namespace K41C
open PySem L2 L3
noncomputable def lv (tb : Tab) (k : Int) : Int := ((look tb k).getD (0, 0)).1
noncomputable def tP (tb : Tab) (w : List (Int × List Int)) : List (Int × Int) := w.flatMap fun e => (e.2.filter fun c => decide (lv tb c = lv tb e.1)).map fun c => (e.1, c)
noncomputable def mx0 (ks : List (Int × Int)) : Int := maxI (0 :: ks.map (·.1))
noncomputable def sz0 (ks : List (Int × Int)) : Int := 1 + ((ks.filter fun p => decide (p.1 = mx0 ks)).map (·.2)).sum
noncomputable def own (room : Int) (tb : Tab) (l : Tr) (k : Int) (r : Tr) : List (Int × Int) :=
  if sz0 (l.mk1 room ++ r.mk1 room) ≤ room then ((l.key? ++ r.key?).filter fun c => decide (lv tb c = mx0 (l.mk1 room ++ r.mk1 room))).map fun c => (k, c) else []
theorem tP_append (tb : Tab) (a b : List (Int × List Int)) : tP tb (a ++ b) = tP tb a ++ tP tb b := by simp [tP]
theorem kid_count : ∀ t : Tr, (t.wk.map fun e => e.2.length).sum + t.key?.length = t.size
  | .nil => rfl
  | .node l k r => by
    have h1 := kid_count l
    have h2 := kid_count r
    simp only [Tr.wk, List.map_append, List.map_cons, List.map_nil, List.sum_append, List.sum_cons, List.sum_nil, List.length_append, Tr.key?, List.length_singleton, Tr.size]
    simp only [Tr.key?] at h1 h2 ⊢
    lia
theorem tP_short (tb : Tab) : ∀ w : List (Int × List Int), (tP tb w).length ≤ (w.map fun e => e.2.length).sum
  | [] => Nat.le_refl _
  | e :: w => by
    have := tP_short tb w
    have h2 := List.length_filter_le (fun c => decide (lv tb c = lv tb e.1)) e.2
    have e1 : tP tb (e :: w) = ((e.2.filter fun c => decide (lv tb c = lv tb e.1)).map fun c => (e.1, c)) ++ tP tb w := by simp [tP]
    rw [e1, List.length_append, List.length_map, List.map_cons, List.sum_cons]
    lia
theorem tie_len (tb : Tab) (t : Tr) : (tP tb t.wk).length ≤ t.size := by
  have := tP_short tb t.wk
  have := kid_count t
  lia
noncomputable def prs (p : Int × Int) : List Int := [p.1, p.2]
noncomputable def Rises (qs : List (Int × Int)) : Prop := qs.Pairwise fun a b => HT.lexLt (prs b) (prs a) = false
theorem rises_one {a b : List (Int × Int)} (p : a.Perm b) (ha : Rises a) (hb : Rises b) : a = b :=
  List.Perm.eq_of_pairwise (fun x y _ _ h1 h2 => by
    have := HS.lex_tot h2 h1
    unfold prs at this
    obtain ⟨x1, x2⟩ := x
    obtain ⟨y1, y2⟩ := y
    simp at this
    rw [this.1, this.2]) ha hb p
noncomputable def unp (z : Addr × List Int) : Int × Int := (z.2.getD 0 0, z.2.getD 1 0)
theorem zip_pairs {H : Hp} : ∀ {ws : List V} {qs : List (Int × Int)}, Reps H ws (qs.map pairD) → ∃ zs : List (Addr × List Int), ws = zs.map (fun z => V.ref z.1) ∧ zs.map unp = qs ∧ ∀ z ∈ zs, z.2 = prs (unp z) ∧ H z.1 = some (.tup (z.2.map V.int))
  | _, [], h => by cases h; exact ⟨[], rfl, rfl, fun z hz => by cases hz⟩
  | _, q :: qs, h => by
    cases h with
    | cons h1 h2 =>
      obtain ⟨zs, e1, e2, e3⟩ := zip_pairs h2
      obtain ⟨b, rfl, eb⟩ := rep_pair h1
      refine ⟨(b, prs q) :: zs, by rw [e1]; rfl, by rw [List.map_cons, e2]; rfl, fun z hz => ?_⟩
      rcases List.mem_cons.mp hz with rfl | hz
      · exact ⟨rfl, eb⟩
      · exact e3 z hz
theorem pairs_zip {H : Hp} : ∀ {zs : List (Addr × List Int)}, (∀ z ∈ zs, z.2 = prs (unp z) ∧ H z.1 = some (.tup (z.2.map V.int))) → Reps H (zs.map fun z => V.ref z.1) ((zs.map unp).map pairD)
  | [], _ => .nil
  | z :: zs, h => by
    obtain ⟨h1, h2⟩ := h z (.head _)
    rw [h1] at h2
    exact .cons (pair_rep (m := unp z) h2) (pairs_zip fun y hy => h y (.tail _ hy))
noncomputable def ownS (room : Int) (l : Tr) (k : Int) (r : Tr) : List (Int × Int) := ((l.sub ++ r.sub).filter fun u => decide ((u.mark room).1 = ((Tr.node l k r).mark room).1)).flatMap fun u => u.key?.map fun c => (k, c)
noncomputable def tS (room : Int) : Tr → List (Int × Int)
  | .nil => []
  | .node l k r => tS room l ++ tS room r ++ ownS room l k r
theorem ownS_up {room : Int} {l r : Tr} {k : Int} {p : Int × Int} (h : p ∈ ownS room l k r) : p.1 = k := by
  obtain ⟨u, _, hu⟩ := List.mem_flatMap.mp h
  obtain ⟨c, _, rfl⟩ := List.mem_map.mp hu
  rfl
theorem lv_key (room : Int) {tb : Tab} (hn : (tb.map (·.1)).Nodup) {l r : Tr} {k : Int} (hs : ∀ e ∈ (Tr.node l k r).pt room, e ∈ tb) : lv tb k = ((Tr.node l k r).mark room).1 := by
  have : look tb k = some ((Tr.node l k r).mark room) := look_mem hn (hs _ (Tr.key_mark room _ k (by simp [Tr.key?])))
  unfold lv; rw [this]; rfl
theorem side_own (room : Int) {tb : Tab} (hn : (tb.map (·.1)).Nodup) {u : Tr} {k M : Int} (hs : ∀ e ∈ u.pt room, e ∈ tb) :
    (u.key?.filter fun c => decide (lv tb c = M)).map (fun c => (k, c)) = (u.sub.filter fun v => decide ((v.mark room).1 = M)).flatMap fun v => v.key?.map fun c => (k, c) := by
  cases u with
  | nil => rfl
  | node l x r =>
    have h := lv_key room hn hs
    by_cases e : ((Tr.node l x r).mark room).1 = M
    · simp [Tr.key?, Tr.sub, h, e]
    · simp [Tr.key?, Tr.sub, h, e]
theorem tP_tS (room : Int) {tb : Tab} (hn : (tb.map (·.1)).Nodup) : ∀ t : Tr, (∀ e ∈ t.pt room, e ∈ tb) → tP tb t.wk = tS room t
  | .nil, _ => rfl
  | .node l k r, hs => by
    have hl : ∀ e ∈ l.pt room, e ∈ tb := fun e he => hs e (by simp [Tr.pt, he])
    have hr : ∀ e ∈ r.pt room, e ∈ tb := fun e he => hs e (by simp [Tr.pt, he])
    rw [Tr.wk, tP_append, tP_append, tP_tS room hn l hl, tP_tS room hn r hr, tS]
    congr 1
    have e1 : tP tb [(k, l.key? ++ r.key?)] = ((l.key? ++ r.key?).filter fun c => decide (lv tb c = lv tb k)).map fun c => (k, c) := by simp [tP]
    rw [e1, lv_key room hn hs, List.filter_append, List.map_append, side_own room hn hl, side_own room hn hr]
    unfold ownS
    rw [List.filter_append, List.flatMap_append]
end K41C
namespace K41C
open PySem L2 L3
noncomputable def tie (room : Int) (l : Tr) (k : Int) (r u : Tr) : Bool := decide ((u.mark room).1 = ((Tr.node l k r).mark room).1)
noncomputable def hd (room : Int) : Tr → List Int
  | .nil => []
  | .node l k r => k :: ((if tie room l k r l then hd room l else []) ++ (if tie room l k r r then hd room r else []))
noncomputable def er (room : Int) : Tr → List (Int × List Int)
  | .nil => []
  | .node l k r => (er room l ++ (if tie room l k r l then [] else l.key?.map fun c => (c, hd room l))) ++ (er room r ++ (if tie room l k r r then [] else r.key?.map fun c => (c, hd room r)))
noncomputable def en (room : Int) (t : Tr) : List (Int × List Int) := er room t ++ t.key?.map fun c => (c, hd room t)
noncomputable def tdS (room : Int) : Tr → List Int
  | .nil => []
  | .node l k r => tdS room l ++ tdS room r ++ ((if tie room l k r l then l.key? else []) ++ (if tie room l k r r then r.key? else []))
theorem tS_tdS (room : Int) : ∀ t : Tr, (tS room t).map (·.2) = tdS room t
  | .nil => rfl
  | .node l k r => by
    rw [tS, tdS, List.map_append, List.map_append, tS_tdS room l, tS_tdS room r]
    congr 1
    have side : ∀ u : Tr, (((u.sub.filter fun v => decide ((v.mark room).1 = ((Tr.node l k r).mark room).1)).flatMap fun v => v.key?.map fun c => (k, c)).map (·.2)) = if tie room l k r u then u.key? else [] := by
      intro u
      cases u with
      | nil => simp [Tr.sub, Tr.key?]
      | node a b c =>
        by_cases h : ((Tr.node a b c).mark room).1 = ((Tr.node l k r).mark room).1
        · simp [Tr.sub, Tr.key?, tie, h]
        · simp [Tr.sub, Tr.key?, tie, h]
    unfold ownS
    rw [List.filter_append, List.flatMap_append, List.map_append, side l, side r]
noncomputable def TdOk (room : Int) (td : List Int) : Tr → Prop
  | .nil => True
  | .node l k r => (∀ c ∈ l.key?, (c ∈ td ↔ tie room l k r l = true)) ∧ (∀ c ∈ r.key?, (c ∈ td ↔ tie room l k r r = true)) ∧ TdOk room td l ∧ TdOk room td r
noncomputable def blw : Tr → List Int
  | .nil => []
  | .node l _ r => l.keys ++ r.keys
theorem key_keys (t : Tr) : ∀ c ∈ t.key?, c ∈ t.keys := by
  cases t with
  | nil => intro c h; simp [Tr.key?] at h
  | node l k r => intro c h; simp [Tr.key?] at h; subst h; simp [Tr.keys]
theorem blw_keys (t : Tr) : ∀ c ∈ blw t, c ∈ t.keys := by
  cases t with
  | nil => intro c h; simp [blw] at h
  | node l k r => intro c h; simp only [blw, List.mem_append] at h; simp only [Tr.keys, List.mem_append, List.mem_singleton]; rcases h with h | h <;> simp [h]
theorem tdS_blw (room : Int) : ∀ (t : Tr) (c : Int), c ∈ tdS room t → c ∈ blw t
  | .nil, c, h => by simp [tdS] at h
  | .node l k r, c, h => by
    simp only [tdS, List.mem_append] at h
    simp only [blw, List.mem_append]
    rcases h with (h | h) | h | h
    · exact .inl (blw_keys l c (tdS_blw room l c h))
    · exact .inr (blw_keys r c (tdS_blw room r c h))
    · split at h
      · exact .inl (key_keys l c h)
      · cases h
    · split at h
      · exact .inr (key_keys r c h)
      · cases h
theorem nd_node {l r : Tr} {k : Int} (h : (Tr.node l k r).keys.Nodup) : l.keys.Nodup ∧ r.keys.Nodup ∧ k ∉ l.keys ∧ k ∉ r.keys ∧ ∀ c ∈ l.keys, c ∉ r.keys := by
  rw [Tr.keys, List.append_assoc, List.nodup_append] at h
  obtain ⟨h1, h2, h3⟩ := h
  rw [List.singleton_append, List.nodup_cons] at h2
  exact ⟨h1, h2.2, fun hk => h3 k hk k (by simp) rfl, h2.1, fun c hc hr => h3 c hc c (by simp [hr]) rfl⟩
theorem key_blw {t : Tr} (h : t.keys.Nodup) : ∀ c ∈ t.key?, c ∉ blw t := by
  cases t with
  | nil => intro c hc; simp [Tr.key?] at hc
  | node l k r =>
    intro c hc
    simp [Tr.key?] at hc
    subst hc
    obtain ⟨_, _, h3, h4, _⟩ := nd_node h
    simp [blw, h3, h4]
theorem tdOk_of (room : Int) (td : List Int) : ∀ t : Tr, t.keys.Nodup → (∀ c ∈ blw t, (c ∈ td ↔ c ∈ tdS room t)) → TdOk room td t
  | .nil, _, _ => trivial
  | .node l k r, hn, h => by
    obtain ⟨n1, n2, n3, n4, n5⟩ := nd_node hn
    have own_l : ∀ c, c ∈ (if tie room l k r l = true then l.key? else []) ↔ (c ∈ l.key? ∧ tie room l k r l = true) := fun c => by split <;> simp [*]
    have own_r : ∀ c, c ∈ (if tie room l k r r = true then r.key? else []) ↔ (c ∈ r.key? ∧ tie room l k r r = true) := fun c => by split <;> simp [*]
    have inv : ∀ c, c ∈ tdS room (.node l k r) ↔ (c ∈ tdS room l ∨ c ∈ tdS room r ∨ (c ∈ l.key? ∧ tie room l k r l = true) ∨ (c ∈ r.key? ∧ tie room l k r r = true)) := fun c => by
      simp only [tdS, List.mem_append, own_l, own_r]
      constructor
      · rintro ((h | h) | h | h)
        · exact .inl h
        · exact .inr (.inl h)
        · exact .inr (.inr (.inl h))
        · exact .inr (.inr (.inr h))
      · rintro (h | h | h | h)
        · exact .inl (.inl h)
        · exact .inl (.inr h)
        · exact .inr (.inl h)
        · exact .inr (.inr h)
    refine ⟨fun c hc => ?_, fun c hc => ?_, tdOk_of room td l n1 fun c hc => ?_, tdOk_of room td r n2 fun c hc => ?_⟩
    · have hcl := key_keys l c hc
      rw [h c (by simp [blw, hcl]), inv]
      constructor
      · rintro (h | h | h | h)
        · exact absurd (tdS_blw room l c h) (key_blw n1 c hc)
        · exact absurd (blw_keys r c (tdS_blw room r c h)) (n5 c hcl)
        · exact h.2
        · exact absurd (key_keys r c h.1) (n5 c hcl)
      · exact fun h => .inr (.inr (.inl ⟨hc, h⟩))
    · have hcr := key_keys r c hc
      rw [h c (by simp [blw, hcr]), inv]
      constructor
      · rintro (h | h | h | h)
        · exact absurd hcr (n5 c (blw_keys l c (tdS_blw room l c h)))
        · exact absurd (tdS_blw room r c h) (key_blw n2 c hc)
        · exact absurd hcr (n5 c (key_keys l c h.1))
        · exact h.2
      · exact fun h => .inr (.inr (.inr ⟨hc, h⟩))
    · have hcl := blw_keys l c hc
      rw [h c (by simp [blw, hcl]), inv]
      constructor
      · rintro (h | h | h | h)
        · exact h
        · exact absurd (blw_keys r c (tdS_blw room r c h)) (n5 c hcl)
        · exact absurd hc (key_blw n1 c h.1)
        · exact absurd (key_keys r c h.1) (n5 c hcl)
      · exact fun h => .inl h
    · have hcr := blw_keys r c hc
      rw [h c (by simp [blw, hcr]), inv]
      constructor
      · rintro (h | h | h | h)
        · exact absurd hcr (n5 c (blw_keys l c (tdS_blw room l c h)))
        · exact h
        · exact absurd hcr (n5 c (key_keys l c h.1))
        · exact absurd hc (key_blw n2 c h.1)
      · exact fun h => .inr (.inl h)
noncomputable abbrev PTab := List (Int × List Int)
noncomputable def lkP (D : PTab) (c : Int) : List Int := ((D.find? fun e => decide (e.1 = c)).map (·.2)).getD []
noncomputable def stK (td : List Int) (x : PTab × List Int) (c : Int) : PTab × List Int := if c ∈ td then (x.1.filter (fun e => decide (e.1 ≠ c)), x.2 ++ lkP x.1 c) else x
noncomputable def stp (td : List Int) (D : PTab) (e : Int × List Int) : PTab := (e.2.foldl (stK td) (D, [e.1])).1 ++ [(e.1, (e.2.foldl (stK td) (D, [e.1])).2)]
theorem lkP_mid : ∀ {X Y : PTab} {c : Int} {p : List Int}, (∀ e ∈ X, e.1 ≠ c) → lkP (X ++ (c, p) :: Y) c = p
  | [], Y, c, p, _ => by simp [lkP]
  | e :: X, Y, c, p, h => by
    have := lkP_mid (X := X) (Y := Y) (c := c) (p := p) fun e he => h e (.tail _ he)
    unfold lkP at this ⊢
    rw [List.cons_append, List.find?_cons]
    have hne : ¬ e.1 = c := h e (.head _)
    simp only [hne, decide_false]
    exact this
theorem side_key {room : Int} {u : Tr} {b : Bool} {e : Int × List Int} (ih : ∀ e ∈ er room u, e.1 ∈ blw u) (h : e ∈ er room u ++ (if b = true then [] else u.key?.map fun c => (c, hd room u))) : e.1 ∈ u.keys := by
  rcases List.mem_append.mp h with h | h
  · exact blw_keys u _ (ih e h)
  · split at h
    · cases h
    · obtain ⟨c, hc, rfl⟩ := List.mem_map.mp h
      exact key_keys u c hc
theorem er_keys (room : Int) : ∀ (t : Tr) (e : Int × List Int), e ∈ er room t → e.1 ∈ blw t
  | .nil, e, h => by simp [er] at h
  | .node l k r, e, h => by
    rw [er] at h
    simp only [blw, List.mem_append]
    rcases List.mem_append.mp h with h | h
    · exact .inl (side_key (er_keys room l) h)
    · exact .inr (side_key (er_keys room r) h)
theorem en_keys {room : Int} {t : Tr} {e : Int × List Int} (h : e ∈ en room t) : e.1 ∈ t.keys := side_key (b := false) (er_keys room t) (by simpa [en] using h)
theorem stK_side {room : Int} {td : List Int} {X Y : PTab} {u : Tr} {b : Bool} {p : List Int} (hX : ∀ e ∈ X, e.1 ∉ u.key?) (hY : ∀ e ∈ Y, e.1 ∉ u.key?) (hn : u.keys.Nodup) (tu : ∀ c ∈ u.key?, (c ∈ td ↔ b = true)) :
    u.key?.foldl (stK td) (X ++ en room u ++ Y, p) = (X ++ (er room u ++ (if b = true then [] else u.key?.map fun c => (c, hd room u))) ++ Y, p ++ (if b = true then hd room u else [])) := by
  cases u with
  | nil => cases b <;> simp [Tr.key?, en, hd]
  | node l c r =>
    have hc : c ∈ (Tr.node l c r).key? := by simp [Tr.key?]
    have hE : ∀ e ∈ er room (.node l c r), e.1 ≠ c := fun e he z => key_blw hn c hc (by rw [← z]; exact er_keys room _ e he)
    have hX' : ∀ e ∈ X, e.1 ≠ c := fun e he z => hX e he (by simp [Tr.key?, z])
    have hY' : ∀ e ∈ Y, e.1 ≠ c := fun e he z => hY e he (by simp [Tr.key?, z])
    have e1 : (Tr.node l c r).key? = [c] := rfl
    have e2 : X ++ en room (.node l c r) ++ Y = (X ++ er room (.node l c r)) ++ (c, hd room (.node l c r)) :: Y := by simp [en, e1]
    rw [e1, List.foldl_cons, List.foldl_nil, e2]
    unfold stK
    cases b with
    | true =>
      rw [if_pos ((tu c hc).mpr rfl)]
      have f1 : (X ++ er room (.node l c r)).filter (fun e => decide (e.1 ≠ c)) = X ++ er room (.node l c r) := List.filter_eq_self.mpr fun e he => by
        rcases List.mem_append.mp he with he | he
        · exact decide_eq_true (hX' e he)
        · exact decide_eq_true (hE e he)
      have f2 : Y.filter (fun e => decide (e.1 ≠ c)) = Y := List.filter_eq_self.mpr fun e he => decide_eq_true (hY' e he)
      rw [List.filter_append, f1, List.filter_cons, if_neg (by simp), f2, lkP_mid (fun e he => ?_)]
      · simp
      · rcases List.mem_append.mp he with he | he
        · exact hX' e he
        · exact hE e he
    | false =>
      rw [if_neg (fun h => nomatch (tu c hc).mp h)]
      simp [e1]
theorem fold_en (room : Int) (td : List Int) : ∀ (t : Tr) (D : PTab), t.keys.Nodup → TdOk room td t → (∀ e ∈ D, e.1 ∉ t.keys) → t.wk.foldl (stp td) D = D ++ en room t
  | .nil, D, _, _, _ => by simp [Tr.wk, en, er, Tr.key?]
  | .node l k r, D, hn, ht, hD => by
    obtain ⟨n1, n2, n3, n4, n5⟩ := nd_node hn
    obtain ⟨t1, t2, t3, t4⟩ := ht
    have Dl : ∀ e ∈ D, e.1 ∉ l.keys := fun e he h => hD e he (by simp [Tr.keys, h])
    have Dr : ∀ e ∈ D, e.1 ∉ r.keys := fun e he h => hD e he (by simp [Tr.keys, h])
    have hr2 : ∀ e ∈ D ++ en room l, e.1 ∉ r.keys := fun e he => by
      rcases List.mem_append.mp he with he | he
      · exact Dr e he
      · exact n5 _ (en_keys he)
    rw [Tr.wk, List.foldl_append, List.foldl_append, fold_en room td l D n1 t3 Dl, fold_en room td r _ n2 t4 hr2, List.foldl_cons, List.foldl_nil]
    unfold stp
    rw [List.foldl_append]
    rw [stK_side (room := room) (b := tie room l k r l) (X := D) (Y := en room r) (u := l) (p := [k]) (fun e he h => Dl e he (key_keys l _ h)) (fun e he h => n5 _ (key_keys l _ h) (en_keys he)) n1 t1]
    have := stK_side (room := room) (td := td) (b := tie room l k r r) (X := D ++ (er room l ++ (if tie room l k r l = true then [] else l.key?.map fun c => (c, hd room l)))) (Y := []) (u := r) (p := [k] ++ (if tie room l k r l = true then hd room l else [])) (fun e he h => ?_) (fun e he => by cases he) n2 t2
    · rw [List.append_nil, List.append_nil] at this
      rw [this]
      simp [en, er, hd, Tr.key?, List.append_assoc]
    · rcases List.mem_append.mp he with he | he
      · exact Dr e he (key_keys r _ h)
      · exact n5 _ (side_key (er_keys room l) he) (key_keys r _ h)
noncomputable def OkF (td : List Int) : List (Int × List Int) → PTab → Prop
  | [], _ => True
  | e :: w, D => ((∀ c ∈ e.2, c ∈ D.map (·.1)) ∧ e.2.Nodup ∧ e.1 ∉ D.map (·.1) ∧ (D.map (·.1)).Nodup) ∧ OkF td w (stp td D e)
theorem okF_append (td : List Int) : ∀ (a b : List (Int × List Int)) (D : PTab), OkF td a D → OkF td b (a.foldl (stp td) D) → OkF td (a ++ b) D
  | [], b, D, _, h => h
  | e :: a, b, D, h, h' => ⟨h.1, okF_append td a b _ h.2 h'⟩
theorem okF_at (td : List Int) : ∀ (w : List (Int × List Int)) (D : PTab) (i : Nat) (e : Int × List Int), OkF td w D → w[i]? = some e →
    (∀ c ∈ e.2, c ∈ ((w.take i).foldl (stp td) D).map (·.1)) ∧ e.2.Nodup ∧ e.1 ∉ ((w.take i).foldl (stp td) D).map (·.1) ∧ (((w.take i).foldl (stp td) D).map (·.1)).Nodup
  | [], _, i, e, _, h => by simp at h
  | x :: w, D, 0, e, h, h' => by simp at h'; subst h'; exact h.1
  | x :: w, D, i + 1, e, h, h' => okF_at td w _ i e h.2 (by simpa using h')
theorem en_nodup {room : Int} : ∀ {t : Tr}, t.keys.Nodup → ((en room t).map (·.1)).Nodup
  | .nil, _ => by simp [en, er, Tr.key?]
  | .node l k r, hn => by
    obtain ⟨n1, n2, n3, n4, n5⟩ := nd_node hn
    have side : ∀ (u : Tr) (b : Bool), ((en room u).map (·.1)).Nodup → ((er room u ++ (if b = true then [] else u.key?.map fun c => (c, hd room u))).map (·.1)).Nodup := fun u b h => by
      cases b with
      | false => exact h
      | true => unfold en at h; rw [List.map_append] at h; simpa using (List.nodup_append.mp h).1
    have h1 := side l (tie room l k r l) (en_nodup n1)
    have h2 := side r (tie room l k r r) (en_nodup n2)
    unfold en
    rw [er, List.map_append, List.map_append, List.nodup_append, List.nodup_append]
    refine ⟨⟨h1, h2, fun a ha b hb z => ?_⟩, by simp [Tr.key?], fun a ha b hb z => ?_⟩
    · obtain ⟨e, he, rfl⟩ := List.mem_map.mp ha
      obtain ⟨e', he', rfl⟩ := List.mem_map.mp hb
      exact n5 _ (side_key (er_keys room l) he) (by rw [z]; exact side_key (er_keys room r) he')
    · have hb' : b = k := by simpa [Tr.key?] using hb
      subst hb'
      subst z
      rcases List.mem_append.mp ha with ha | ha
      · obtain ⟨e, he, h⟩ := List.mem_map.mp ha
        exact n3 (by rw [← h]; exact side_key (er_keys room l) he)
      · obtain ⟨e, he, h⟩ := List.mem_map.mp ha
        exact n4 (by rw [← h]; exact side_key (er_keys room r) he)
theorem okF_tree (room : Int) (td : List Int) : ∀ (t : Tr) (D : PTab), t.keys.Nodup → TdOk room td t → (∀ e ∈ D, e.1 ∉ t.keys) → (D.map (·.1)).Nodup → OkF td t.wk D
  | .nil, D, _, _, _, _ => trivial
  | .node l k r, D, hn, ht, hD, hDn => by
    obtain ⟨n1, n2, n3, n4, n5⟩ := nd_node hn
    have Dl : ∀ e ∈ D, e.1 ∉ l.keys := fun e he h => hD e he (by simp [Tr.keys, h])
    have Dr : ∀ e ∈ D, e.1 ∉ r.keys := fun e he h => hD e he (by simp [Tr.keys, h])
    have hr2 : ∀ e ∈ D ++ en room l, e.1 ∉ r.keys := fun e he => by
      rcases List.mem_append.mp he with he | he
      · exact Dr e he
      · exact n5 _ (en_keys he)
    have app : ∀ (E : PTab) (u : Tr), (E.map (·.1)).Nodup → u.keys.Nodup → (∀ e ∈ E, e.1 ∉ u.keys) → ((E ++ en room u).map (·.1)).Nodup := fun E u h1 h2 h3 => by
      rw [List.map_append, List.nodup_append]
      refine ⟨h1, en_nodup h2, fun a ha b hb z => ?_⟩
      obtain ⟨e, he, rfl⟩ := List.mem_map.mp ha
      obtain ⟨e', he', rfl⟩ := List.mem_map.mp hb
      exact h3 e he (by rw [z]; exact en_keys he')
    have nl := app D l hDn n1 Dl
    have nr := app _ r nl n2 hr2
    rw [Tr.wk]
    refine okF_append td _ _ D (okF_append td _ _ D (okF_tree room td l D n1 ht.2.2.1 Dl hDn) ?_) ?_
    · rw [fold_en room td l D n1 ht.2.2.1 Dl]
      exact okF_tree room td r _ n2 ht.2.2.2 hr2 nl
    · rw [List.foldl_append, fold_en room td l D n1 ht.2.2.1 Dl, fold_en room td r _ n2 ht.2.2.2 hr2]
      refine ⟨⟨fun c hc => ?_, ?_, fun h => ?_, nr⟩, trivial⟩
      · rcases List.mem_append.mp hc with hc | hc
        · exact List.mem_map.mpr ⟨(c, hd room l), by simp [en, hc], rfl⟩
        · exact List.mem_map.mpr ⟨(c, hd room r), by simp [en, hc], rfl⟩
      · rw [List.nodup_append]
        exact ⟨by cases l <;> simp [Tr.key?], by cases r <;> simp [Tr.key?], fun a ha b hb z => n5 a (key_keys l a ha) (by rw [z]; exact key_keys r b hb)⟩
      · obtain ⟨e, he, rfl⟩ := List.mem_map.mp h
        rcases List.mem_append.mp he with he | he
        · rcases List.mem_append.mp he with he | he
          · exact hD e he (by simp [Tr.keys])
          · exact n3 (en_keys he)
        · exact n4 (en_keys he)
end K41C
namespace K41C
open PySem L2 L3
noncomputable def so (p : List Int) : List Int := p.mergeSort fun a b => decide (a ≤ b)
theorem so_perm (p : List Int) : (so p).Perm p := List.mergeSort_perm _ _
theorem so_sorted (p : List Int) : (so p).Pairwise (· ≤ ·) := by
  have := List.pairwise_mergeSort (le := fun a b : Int => decide (a ≤ b)) (fun a b c h1 h2 => by simp at *; lia) (fun a b => by simp; lia) p
  exact this.imp fun h => of_decide_eq_true h
theorem so_one {q p : List Int} (h : q.Perm p) (s : q.Pairwise (· ≤ ·)) : q = so p :=
  List.Perm.eq_of_pairwise (fun a b _ _ h1 h2 => Int.le_antisymm h1 h2) s (so_sorted p) (h.trans (so_perm p).symm)
noncomputable def LexS (L : List (List Int)) : Prop := L.Pairwise fun a b => HT.lexLt b a = false
theorem lex_one {L M : List (List Int)} (h : L.Perm M) (a : LexS L) (b : LexS M) : L = M :=
  List.Perm.eq_of_pairwise (fun x y _ _ h1 h2 => HS.lex_tot h2 h1) a b h
noncomputable def lr (room : Int) : Tr → List (List Int)
  | .nil => []
  | .node l k r => (match l with | .nil => [] | .node .. => if tie room l k r l then lr room l else hd room l :: lr room l) ++ (match r with | .nil => [] | .node .. => if tie room l k r r then lr room r else hd room r :: lr room r)
end K41C
namespace K41C
open PySem L2 L3
structure Laid (room : Int) (t : Tr) (L : List (List Int)) : Prop where
  perm : L.Perm (((en room t).map (·.2)).map so)
  nd : t.keys.Nodup
theorem Laid.len {room : Int} {t : Tr} {L : List (List Int)} (h : Laid room t L) : L.length = (en room t).length := by
  have := h.perm.length_eq
  rwa [List.length_map, List.length_map] at this
end K41C
namespace K41C
open PySem L2 L3
end K41C
namespace K41C
open PySem L2 L3 K41
theorem pairs_upd {H : Hp} {l : Addr} {xs : List V} {o : HO} (e : H l = some (.lst xs)) : ∀ {ps : List (Int × Int)} {vs : List V}, Reps H vs (ps.map pairD) → Reps (upd H l o) vs (ps.map pairD)
  | [], _, h => by cases h; exact .nil
  | p :: ps, _, h => by
    cases h with
    | cons h1 h2 =>
      obtain ⟨b, rfl, eb⟩ := rep_pair h1
      exact .cons (pair_rep (by rw [upd_ne (fun z => by rw [z, e] at eb; cases eb)]; exact eb)) (pairs_upd e h2)
theorem tP_take {tb : Tab} {w : List (Int × List Int)} {i : Nat} {e : Int × List Int} (h : w[i]? = some e) : tP tb (w.take (i + 1)) = tP tb (w.take i) ++ (e.2.filter fun c => decide (lv tb c = lv tb e.1)).map fun c => (e.1, c) := by
  rw [List.take_add_one, h, tP_append]
  simp [tP]
theorem tP_take_le {tb : Tab} {w : List (Int × List Int)} (i : Nat) : (tP tb (w.take i)).length ≤ (tP tb w).length := by
  conv => rhs; rw [← List.take_append_drop i w, tP_append]
  rw [List.length_append]; lia
noncomputable def Known (tb : Tab) (t : Tr) : Prop := ∀ e ∈ t.wk, (∃ m, look tb e.1 = some m) ∧ ∀ c ∈ e.2, ∃ m, look tb c = some m
theorem known_pt (room : Int) {t : Tr} (h : t.keys.Nodup) : Known (t.pt room) t := by
  have hn := Tr.pt_nodup room h
  have some_of : ∀ k, k ∈ t.wk.map (·.1) → ∃ m, look (t.pt room) k = some m := fun k hk => by
    rw [Tr.wk_keys room] at hk
    obtain ⟨e, he, rfl⟩ := List.mem_map.mp hk
    exact ⟨e.2, look_mem hn he⟩
  intro e he
  refine ⟨some_of _ (List.mem_map_of_mem he), fun c hc => some_of c ?_⟩
  obtain ⟨i, hi⟩ := List.getElem?_of_mem he
  have := ahead_at t.wk [] i e (Tr.wk_ahead t) hi c hc
  rw [List.nil_append] at this
  obtain ⟨x, hx, rfl⟩ := List.mem_map.mp this
  exact List.mem_map_of_mem (List.mem_of_mem_take hx)
noncomputable def spTied : Sp := fun vs H Q _ => ∃ (v : V) (t : Tr) (tb : Tab) (d : Addr) (kvs : List (Key × V)), vs = [v, .ref d] ∧ Rep H v (Tr.d t) ∧ t.ht < 80 ∧ t.size ≤ 1000 ∧ H d = some (.dK kvs) ∧ DT H kvs tb ∧ Known tb t ∧
  ∀ r H' ws, H r = none → Same H H' → H' r = some (.lst ws) → Reps H' ws ((tP tb t.wk).map pairD) → Q (.ref r) H'
noncomputable def spTies (n : Nat) : Sp := fun vs H Q _ => ∃ (v : V) (t : Tr) (room : Int), vs = [v, .int room] ∧ Rep H v (Tr.d t) ∧ t.ht < 80 ∧ t.size ≤ 60 ∧ t.keys.Nodup ∧
  ∀ r H' ws qs, H r = none → Same H H' → H' r = some (.lst ws) → Reps H' ws (qs.map pairD) → qs.Perm (tP (t.pt room) t.wk) → Rises qs → Q (.ref r) H'
section
variable {P : Program} {w : World} {K : PySem.W.Frag} {mg : Str → Option Value} {base : Heap}
theorem ok_tied {f : Addr} (F : Fd K mg "tied_pairs" s_tied_pairs f) (T : Tx K mg) (C_with_kids : Cal P w K mg base CX0 80 "with_kids" (spWk 80)) : Cal P w K mg base CX0 82 "tied_pairs" spTied := by
  refine F.cal sc_tied_pairs (fun _ _ _ _ _ _ us hl => L3.bind2 (fun _ _ => rfl) us hl) (fun vs H Q E h => ?_) (fun cdv A outer s H vs Q E hr h => ?_)
  · obtain ⟨v, t, tb, d, kvs, rfl, _⟩ := h; rfl
  · obtain ⟨v, t, tb, d, kvs, rfl, hv, ht, hz, ed, D0, kn, q⟩ := h
    refine ⟨_, (bcons (sset (i := 2) sc_tied_pairs.nd rfl (by first | exact Or.inl rfl | exact Or.inr rfl) (qlst qnil))
      (bcons (sfor PassesOwn.never rfl (iseq K (qF C_with_kids (hr.mono (by lia)) pass0 rfl (qcons (qv 0) qnil))) (gtup (n := 2) K rfl (gscons (gname (i := 3) sc_tied_pairs.nd rfl (by first | exact Or.inl rfl | exact Or.inr rfl)) (gscons (gname (i := 4) sc_tied_pairs.nd rfl (by first | exact Or.inl rfl | exact Or.inr rfl)) gsnil)))
        (bone (sexpr (qBm K PySem.F.plainAttrs_list PySem.F.slot_list_extend PySem.F.type_list_extend mExtend (qv 2) (qcons (qcomp (sc := defScope s_tied_pairs) (NX := ["tree", "told", "pairs", "key", "kids"]) ["kid", "key", "told"] [none, some 3, some 1] rfl (iseq K (qv 4)) (fun _ _ _ => (gname (i := 0) (show (["kid", "key", "told"] : List Str).Nodup by decide +kernel) rfl (by first | exact Or.inl rfl | exact Or.inr rfl))) (fun _ _ _ => (csone (tcmp (rEqq hr) (qix (xIx K) (qdget hr (qv 2) (qv 0) (fun _ _ => rfl)) qint (fun _ _ => rfl)) (qix (xIx K) (qdget hr (qv 2) (qv 1) (fun _ _ => rfl)) qint (fun _ _ => rfl)) (nomark _)))) (fun _ _ _ => (qtup (qcons (qv 1) (qcons (qv 0) qnil)))) rfl rfl (by decide +kernel)) qnil)))))
      (bone (sret (qv 2))))), ?_⟩
    refine ⟨(show 0 ≤ sizeLine by decide), fun l0 H1 n1 s1 e1 _ => ?_⟩
    refine ⟨_, rfl, v, t, rfl, hv.mono s1, ht, hz, fun r H2 ws n2 s2 e2 x2 g2 => ?_⟩
    have hrl : r ≠ l0 := fun z => by rw [z, e1] at n2; cases n2
    have gB : Reps (rm l0 H2) ws (t.wk.map kidD) := x2 _ _ e1
    have eB : rm l0 H2 r = some (.lst ws) := by rw [rm_ne hrl]; exact e2
    have sHB : Same H (rm l0 H2) := fun b o hb => by rw [rm_ne (ne_of_none hb n1)]; exact s2 _ _ (s1 _ _ hb)
    have hlw := g2.length
    rw [List.length_map, Tr.wk_length] at hlw
    have hlen := tie_len tb t
    have hn0 : (rm l0 H2) l0 = none := rm_self
    refine ⟨r, rfl, .inl ⟨⟨_, SqL.of e2⟩, for_listN (xs := ws) (fun i σ H' => ∃ z1 z2 ys, σ = [some v, some (.ref d), some (.ref l0), z1, z2] ∧ Same (rm l0 H2) H' ∧ H' l0 = some (.lst ys) ∧ Reps H' ys ((tP tb (t.wk.take i)).map pairD))
      ⟨none, none, [], rfl, rm_same, s2 _ _ e1, .nil⟩ (fun i σ H' _ hh => by obtain ⟨_, _, _, _, s', _⟩ := hh; exact SqL.of (s' _ _ eB)) ?_ ?_⟩⟩
    · rintro N B R i x σ H3 hx hN _ _ ⟨z1, z2, ys, rfl, s3, el, g3⟩
      obtain ⟨e, he, ge⟩ := reps_map gB hx
      obtain ⟨b, c, rfl, eb, ec⟩ := rep_kid ge
      have eb3 := s3 _ _ eb
      have ec3 := s3 _ _ ec
      have ed3 : H3 d = some (.dK kvs) := s3 _ _ (sHB _ _ ed)
      have D3 : DT H3 kvs tb := D0.mono (sHB.trans s3)
      obtain ⟨⟨mk, hmk⟩, hkn⟩ := kn e (List.mem_of_getElem? he)
      have hle2 : e.2.length ≤ 2 := Tr.wk_small t e (List.mem_of_getElem? he)
      have htk := tP_take (tb := tb) he
      have hg : ∀ {k : Int} {m : Int × Int} {H4 : Hp}, look tb k = some m → Same H3 H4 → ∃ bm, DGet H4 d (.int k) (some (.ref bm)) ∧ H4 bm = some (.tup [.int m.1, .int m.2]) := fun {k m H4} hm s4 => by
        obtain ⟨bm, hv1, hb1⟩ := D3.val hm
        have := DGet.k (k := (Sum.inl k : Key)) (s4 _ _ ed3)
        rw [hv1] at this
        exact ⟨bm, this, s4 _ _ hb1⟩
      refine ⟨b, _, rfl, SqT.of eb3, rfl, _, _, rfl, _, _, rfl, rfl, ?_⟩
      refine ⟨_, rfl, .inl ⟨rfl, _, SqL.of el⟩, ?_⟩
      refine ⟨_, rfl, c, rfl, .inl ⟨⟨_, SqL.of ec3⟩, fun acc ha => ?_⟩⟩
      refine comp_list (xs := e.2.map V.int) (fun j zs σ H' => ∃ z, σ = [z, some (.int e.1), some (.ref d)] ∧ Same H3 H' ∧ H' acc = some (.lst zs) ∧ Reps H' zs ((((e.2.take j).filter fun c => decide (lv tb c = lv tb e.1)).map fun c => (e.1, c)).map pairD)) ⟨none, rfl, same_new ha, upd_same, .nil⟩ (fun j zs σ H' hh => by obtain ⟨_, _, s', _⟩ := hh; exact SqL.of (s' _ _ ec3)) ?_ ?_
      · rintro j zs y σ H4 hy hj ⟨z, rfl, s4, e4, g4⟩
        rw [List.getElem?_map] at hy
        obtain ⟨k, hk, rfl⟩ := Option.map_eq_some_iff.mp hy
        obtain ⟨m, hm⟩ := hkn k (List.mem_of_getElem? hk)
        obtain ⟨b1, d1, h1⟩ := hg hm s4
        obtain ⟨b2, d2, h2⟩ := hg hmk s4
        have hlv1 : lv tb k = m.1 := by unfold lv; rw [hm]; rfl
        have hlv2 : lv tb e.1 = mk.1 := by unfold lv; rw [hmk]; rfl
        have hl4 := g4.length
        have hfl := List.length_filter_le (fun c => decide (lv tb c = lv tb e.1)) (e.2.take j)
        rw [List.length_map, List.length_map] at hl4
        rw [List.length_take] at hfl
        have hst : (e.2.take (j + 1)).filter (fun c => decide (lv tb c = lv tb e.1)) = (e.2.take j).filter (fun c => decide (lv tb c = lv tb e.1)) ++ (if m.1 = mk.1 then [k] else []) := by
          rw [List.take_add_one, hk, List.filter_append, ← hlv1, ← hlv2]
          congr 1
          by_cases h : lv tb k = lv tb e.1 <;> simp [h]
        refine ⟨_, rfl, _, rfl, d, .ref b1, rfl, d1, b1, _, 0, _, rfl, rfl, .inr (SqT.of h1), atI_nat (j := 0) rfl, ?_⟩
        refine ⟨_, rfl, _, rfl, d, .ref b2, rfl, d2, b2, _, 0, _, rfl, rfl, .inr (SqT.of h2), atI_nat (j := 0) rfl, _, rfl, ?_⟩
        refine ite2 (fun h => ?_) (fun h => ?_)
        · have h : m.1 = mk.1 := of_decide_eq_true h
          rw [if_pos h] at hst
          refine ⟨_, rfl, _, rfl, (show 2 ≤ sizeLine by decide), fun b5 H5 n5 s5 e5 _ => ?_⟩
          refine cpost (s5 _ _ e4) (sizeBig (by lia)) hj ?_
          refine ⟨_, rfl, same_upd (s4.trans s5) ha, upd_same, ?_⟩
          rw [hst, List.map_append, List.map_append]
          refine (pairs_upd (s5 _ _ e4) (g4.mono s5)).append ?_
          exact pairs_upd (ps := [(e.1, k)]) (s5 _ _ e4) (.cons (pair_rep e5) .nil)
        · have h : ¬ m.1 = mk.1 := fun z => h (decide_eq_true z)
          rw [if_neg h, List.append_nil] at hst
          refine cskip hj (ys := zs) ?_
          exact ⟨_, rfl, s4, e4, by rw [hst]; exact g4⟩
      · rintro zs σ H4 ⟨z, rfl, s4, e4, g4⟩
        rw [List.length_map, List.take_length] at g4
        have el4 := s4 _ _ el
        have hl3 := g3.length
        have hl4 := g4.length
        rw [List.length_map] at hl3
        rw [List.length_map, List.length_map] at hl4
        have hfl := List.length_filter_le (fun c => decide (lv tb c = lv tb e.1)) e.2
        have htl := tP_take_le (tb := tb) (w := t.wk) i
        refine ⟨l0, acc, ys, zs, rfl, rfl, el4, e4, sizeBig' (by lia), ?_⟩
        refine hN _ _ ⟨_, _, _, rfl, same_upd (s3.trans s4) hn0, upd_same, ?_⟩
        rw [htk, List.map_append]
        exact (pairs_upd el4 (g3.mono s4)).append (pairs_upd el4 g4)
    · rintro σ H3 ⟨z1, z2, ys, rfl, s3, el, g3⟩
      rw [List.take_of_length_le (by rw [Tr.wk_length]; lia)] at g3
      exact ⟨_, rfl, q l0 H3 ys n1 (sHB.trans s3) el g3⟩
end
end K41C
namespace HS
open PySem PySem.W PyProof.Rows
theorem ints_get : ∀ {vs : List Value} {ns : List Int}, IntsAre vs ns → ∀ j (h : j < ns.length), ∃ t, vs[j]? = some (.int ns[j] t)
  | _, _, .cons n t _, 0, _ => ⟨t, rfl⟩
  | _, _, .cons n t r, j + 1, h => by simpa using ints_get r j (by simpa using h)
section
open PySem.SeqAt
open PySem.AutoSeq1 (wpAny_loadPart')
open PySem.MeetsSeq PySem.MeetsSeq2 PySem.MeetsSeq3
theorem lt_loop (l b : Addr) (items items2 : Array Value) (n n2 : Nat) (dd dd2 : Option Addr) (sl sl2 : Array (Option Value)) (ns ms : List Int) (hi : IntsAre items.toList ns) (hj : IntsAre items2.toList ms) (k : Nat) :
    ∀ i : Nat, items.size - i = k → i ≤ items.size → i ≤ items2.size → Meets (Builtin.«list.__eq__.loop» ⟨[.ref l, .ref b, rawInt i, rawInt 0], []⟩)
      (fun _ R s => s.heap.get? l = some { cls := .type "list", dict := dd, data := .seq items n, slots := sl } ∧ s.heap.get? b = some { cls := .type "list", dict := dd2, data := .seq items2 n2, slots := sl2 } ∧
        R (.ok (.ret (.bool (HT.lexLt (ns.drop i) (ms.drop i))))) s) := by
  have z1 : items.size = ns.length := by rw [← hi.length]; simp
  have z2 : items2.size = ms.length := by rw [← hj.length]; simp
  have at1 : ∀ j (h : j < ns.length), ∃ t, items[j]? = some (.int ns[j] t) := fun j h => by
    obtain ⟨t, ht⟩ := ints_get hi j h
    exact ⟨t, by rw [← Array.getElem?_toList]; exact ht⟩
  have at2 : ∀ j (h : j < ms.length), ∃ t, items2[j]? = some (.int ms[j] t) := fun j h => by
    obtain ⟨t, ht⟩ := ints_get hj j h
    exact ⟨t, by rw [← Array.getElem?_toList]; exact ht⟩
  induction k with
  | zero =>
    intro i hk h1 h2 prog w A R s h
    obtain ⟨hp, g, d, tk, os⟩ := s; obtain ⟨hl, hb, h⟩ := h
    wp_walk using wpAny_loadPart' hl, wpAny_loadPart' hb
    have hi1 : items[((i : Nat) : Int).toNat]? = none := by simp; lia
    rw [List.drop_eq_nil_of_le (by lia)] at h
    rw [hi1]
    wp_walk using wpAny_loadPart' hl, wpAny_loadPart' hb
    show R (.ok (.ret (.bool (decide (items.size < items2.size))))) _
    cases hm : ms.drop i with
    | nil =>
      rw [hm] at h
      have : ms.length ≤ i := List.drop_eq_nil_iff.mp hm
      rw [decide_eq_false (by lia)]
      exact h
    | cons y ys =>
      rw [hm] at h
      have : (ms.drop i).length = ys.length + 1 := by rw [hm]; rfl
      rw [List.length_drop] at this
      rw [decide_eq_true (by lia)]
      exact h
  | succ k ih =>
    intro i hk h1 h2 prog w A R s h
    obtain ⟨hp, g, d, tk, os⟩ := s; obtain ⟨hl, hb, h⟩ := h
    wp_walk using wpAny_loadPart' hl, wpAny_loadPart' hb
    have hlt : i < ns.length := by lia
    obtain ⟨t, ht⟩ := at1 i hlt
    have hi1 : items[((i : Nat) : Int).toNat]? = some (.int ns[i] t) := ht
    rw [hi1]
    rw [List.drop_eq_getElem_cons hlt] at h
    by_cases hlt2 : i < ms.length
    · obtain ⟨u, hu⟩ := at2 i hlt2
      have hi2 : items2[((i : Nat) : Int).toNat]? = some (.int ms[i] u) := hu
      rw [hi2]
      rw [List.drop_eq_getElem_cons hlt2, HT.lexLt_cons] at h
      have hc : ((i : Int) + 1) = ((i + 1 : Nat) : Int) := by push_cast; rfl
      refine wpAny_bind (wpAny_eqBool_int ?_)
      by_cases e : ns[i] = ms[i]
      · rw [if_pos e] at h
        rw [show (ns[i] == ms[i]) = true by simpa using e]
        wp_walk
        rw [hc]
        exact ⟨plainId_quiet plain_eq_loop _, codeAny_builtin entry_eq_loop (by
          rw [Around.under_plainId plain_eq_loop _]
          exact ih (i + 1) (by lia) (by lia) (by lia) prog w A R _ ⟨hl, hb, h⟩)⟩
      · rw [if_neg e] at h
        rw [show (ns[i] == ms[i]) = false by simpa using e]
        wp_walk using wpAny_loadPart' hl, wpAny_loadPart' hb
        rw [hi1, hi2]
        have hri := HT.rcLt_int A.in1 ⟨hp, g, d, tk, os⟩ ns[i] t ms[i] u prog w
        wp_walk using hri
        exact h
    · have hi2 : items2[((i : Nat) : Int).toNat]? = none := by
        show items2[i]? = none
        simp; lia
      rw [hi2]
      rw [List.drop_eq_nil_of_le (by lia : ms.length ≤ i)] at h
      wp_walk using wpAny_loadPart' hl, wpAny_loadPart' hb
      show R (.ok (.ret (.bool (decide (items.size < items2.size))))) _
      rw [decide_eq_false (by lia)]
      exact h
theorem list_lt_ints (l b : Addr) (items items2 : Array Value) (n n2 : Nat) (dd dd2 : Option Addr) (sl sl2 : Array (Option Value)) (ns ms : List Int) (hi : IntsAre items.toList ns) (hj : IntsAre items2.toList ms) :
    Meets (Builtin.«list.__lt__» ⟨[.ref l, .ref b], []⟩)
      (fun _ R s => s.heap.get? l = some { cls := .type "list", dict := dd, data := .seq items n, slots := sl } ∧ s.heap.get? b = some { cls := .type "list", dict := dd2, data := .seq items2 n2, slots := sl2 } ∧
        R (.ok (.ret (.bool (HT.lexLt ns ms)))) s) := by
  intro prog w A R s h
  obtain ⟨hp, g, d, tk, os⟩ := s; obtain ⟨hl, hb, h⟩ := h
  have f3 := AutoSeq1.sub_list_list
  wp_walk using wpAny_loadPart' hl, wpAny_loadPart' hb
  exact ⟨plainId_quiet plain_eq_loop _, codeAny_builtin entry_eq_loop (by
    rw [Around.under_plainId plain_eq_loop _]
    exact lt_loop l b items items2 n n2 dd dd2 sl sl2 ns ms hi hj _ 0 rfl (Nat.zero_le _) (Nat.zero_le _) prog w A R _ ⟨hl, hb, h⟩)⟩
end
section
variable {prog : Program} {w : World} {A : Around} {E : Value → Shared → Prop} {s : Shared}
noncomputable def LstIs (h : Heap) (v : Value) (ns : List Int) : Prop := ∃ a its, v = .ref a ∧ h.IsList a its ∧ IntsAre its.toList ns
theorem LstIs.kept {h h' : Heap} {v : Value} {ns : List Int} (t : LstIs h v ns) (k : ∀ b o, h.get? b = some o → h'.get? b = some o) : LstIs h' v ns := by
  obtain ⟨a, its, rfl, ⟨o, q, c⟩, i⟩ := t
  exact ⟨a, its, rfl, ⟨o, k a o q, c⟩, i⟩
theorem one_list {x y : Value} {ns ms : List Int} {Q : Bool → Shared → Prop} (hx : LstIs s.heap x ns) (hy : LstIs s.heap y ms) (hu : A.units < cLine) (h : Q (HT.lexLt ns ms) s) : wpAny (model prog w) A (oneLt' true x y) Q E s := by
  obtain ⟨a, its, rfl, ⟨⟨cls, dd, data, sl⟩, ho, hc, n, hd⟩, hi⟩ := hx
  obtain ⟨b, its2, rfl, ⟨⟨cls2, dd2, data2, sl2⟩, ho2, hc2, n2, hd2⟩, hj⟩ := hy
  simp only at hc hd hc2 hd2
  subst hc hd hc2 hd2
  rw [oneLt'_eq]
  simp only [if_true]
  refine wpAny_bind (wpAny_cRoomFor hu ?_)
  refine wpAny_bind (wpAny_callSpecialIfBound?_slot ⟨_, ho, rfl⟩ PySem.F.slot_list_lt (call_meets PySem.F.slot_list_lt ⟨_, ho, rfl⟩ PySem.F.entry_list_lt (PySem.F.args_list_lt_2 _ _) (list_lt_ints a b its its2 n n2 dd dd2 sl sl2 ns ms hi hj) ⟨ho, ho2, ?_⟩))
  exact wpAny_truthy_bool h
theorem lst_getD {h : Heap} : ∀ {vs : List Value} {L : List (List Int)}, F2 (LstIs h) vs L → ∀ i, i < vs.length → LstIs h (vs.getD i .none) (L.getD i [])
  := by
  intro vs L t
  induction t with
  | nil => intro i hi; cases hi
  | cons t r ih =>
    intro i hi
    cases i with
    | zero => exact t
    | succ i => simpa using ih i (by simpa using hi)
theorem lst_ty {h : Heap} : ∀ {vs : List Value} {L : List (List Int)}, F2 (LstIs h) vs L → ∀ v ∈ vs, Looks (model prog w) h (typeOf v) (.type "list")
  := by
  intro vs L t
  induction t with
  | nil => intro v hv; cases hv
  | cons t r ih =>
    intro v hv
    rcases List.mem_cons.mp hv with rfl | hv
    · obtain ⟨a, its, rfl, ⟨o, ho, hc, _⟩, _⟩ := t
      rw [← hc]
      exact (Looks.ld ho).andThen .now
    · exact ih v hv
theorem asks_lists {vs : List Value} {L : List (List Int)} (t : F2 (LstIs s.heap) vs L) (two : 2 ≤ vs.length) (hu : A.units < cLine) : Asks prog w A vs (rk L) s := by
  have hl : vs.length = L.length := t.length_eq
  refine kas_kind (T := .type "list") two (lst_ty t) rfl rfl ⟨rfl, fun i j C hi hj hc => ?_⟩
  rw [rk_lt (by lia) (by lia)] at hc
  unfold kas_ask
  rw [keyLt'_oneType]
  exact one_list (lst_getD t i hi) (lst_getD t j hj) hu hc
theorem sorted_lists {l : Addr} {vs : List Value} {L : List (List Int)} {Q : Value → Shared → Prop} (hl : s.heap.IsList l vs.toArray) (few : vs.length < 64) (t : F2 (LstIs s.heap) vs L) (hu : A.units + 2 < cLine)
    (fin : ∀ p, Ar vs.length p → Srt (rk L) p vs.length → Q (.ref (s.heap.objs.size + 1)) { s with heap := sortedAll s.heap vs (outOf vs p).toArray }) : wpAny (model prog w) A (call (.builtin "sorted") [.ref l]) Q E s :=
  gsorted hl few (fun two h' k => asks_lists (t.imp fun _ _ q => q.kept k) two (by show A.units + 1 + 1 < cLine; lia)) fin
end
end HS
namespace L3
open PySem PySem.Spec PyProof.Rows L2
section
variable {X : Cx}
noncomputable def rSortLL (K : PySem.W.Frag) : List V → Hp → VK → Prop := fun xs H Q => ∃ (p : Addr) (zs : List (Addr × List Int)), xs = [.ref p] ∧ SqL K H p (zs.map fun z => V.ref z.1) ∧ zs.length < 64 ∧ (∀ z ∈ zs, H z.1 = some (.lst (z.2.map V.int))) ∧
  ∀ (q : Addr) (H' : Hp) (ys : List (Addr × List Int)), H q = none → Same H H' → H' q = some (.lst (ys.map fun z => V.ref z.1)) → (∀ b, b ≠ q → H' b = H b) → ys.Perm zs → ys.Pairwise (fun a b => HT.lexLt b.2 a.2 = false) → Q (.ref q) H'
theorem call_sortLL (hu : X.A.units + 2 < cLine) : CallR X (.builtin "sorted") (rSortLL X.K) := by
  intro pins s σ H xs us Q I rv h
  obtain ⟨p, zs, rfl, hp, hn, ht, q⟩ := h
  obtain ⟨u, rfl, ru⟩ := vals1 rv
  cases ru
  obtain ⟨its, r, pl, hz⟩ := I.list hp
  have hi := vals_rf_inv r
  subst hi
  have tt : HS.F2 (HS.LstIs s.heap) (zs.map fun z => Value.ref z.1) (zs.map (·.2)) := by
    clear hp r pl hz hn q rv
    induction zs with
    | nil => exact .nil
    | cons z zs ih =>
      refine .cons ?_ (ih fun y hy => ht y (.tail _ hy))
      obtain ⟨its, r1, p1, _⟩ := I.list (show SqL X.K H z.1 (z.2.map V.int) from SqL.of (ht z (.head _)))
      exact ⟨_, _, rfl, p1.isList, by simpa using intsAre_of r1⟩
  have len : (zs.map fun z => Value.ref z.1).length = zs.length := List.length_map ..
  refine HS.sorted_lists pl.isList (by lia) tt hu fun pp a1 a2 => ?_
  rw [len] at a1 a2
  obtain ⟨b1, b2⟩ := HS.srt_pairs (0, []) a1 a2
  obtain ⟨e, he⟩ := sortedAll_at s.heap (zs.map fun z => Value.ref z.1) (HS.outOf (zs.map fun z => Value.ref z.1) pp).toArray
  have hf : H (s.heap.objs.size + 1) = none := I.hok.fresh (Nat.le_succ _)
  have out : HS.outOf (zs.map fun z => Value.ref z.1) pp = (pp.toList.map fun i => zs.getD i (0, [])).map fun z => Value.ref z.1 := by
    unfold HS.outOf
    rw [List.map_map]
    refine List.map_congr_left fun i hi => ?_
    have : i < zs.length := List.mem_range.mp (a1.mem_iff.mp hi)
    simp [List.getD_eq_getElem?_getD, this]
  have ln : (pp.toList.map fun i => zs.getD i (0, [])).length = zs.length := b1.length_eq
  refine ⟨.ref (s.heap.objs.size + 1), _, I.laid (t' := s.toks) (o := .lst ((pp.toList.map fun i => zs.getD i (0, [])).map fun z => V.ref z.1)) (fun b ob q => sortedAll_old q) (Nat.le_succ _)
    ⟨by rw [List.length_map, ln]; exact Nat.le_of_lt (Nat.lt_of_lt_of_le hn (by decide)), _, e, vals_rf (f := fun z : Addr × List Int => z.1) _, by rw [← out]; exact he⟩, rfl, q _ _ _ hf (same_new hf) upd_same (fun b hb => upd_ne hb) b1 b2⟩
theorem fSortLL {k : Nat} {A : Around} (K : PySem.W.Frag) (hr : Room k A) (hA : X.A = A := by rfl) (hK : X.K = K := by rfl) : RCall X (.builtin "sorted") (rSortLL K) := by subst hK; exact .mk (call_sortLL (by rw [hA]; have := hu_n hr; lia))
end
end L3
namespace K41C
open PySem L2 L3 K41
inductive PD (H : Hp) : List (Key × V) → PTab → Prop where
  | nil : PD H [] []
  | cons {k : Int} {p : List Int} {b : Addr} {kvs : List (Key × V)} {ps : PTab} : H b = some (.lst (p.map V.int)) → PD H kvs ps → PD H ((Sum.inl k, .ref b) :: kvs) ((k, p) :: ps)
theorem PD.mono {H H' : Hp} {kvs : List (Key × V)} {ps : PTab} (h : PD H kvs ps) (s : Same H H') : PD H' kvs ps := by
  induction h with
  | nil => exact .nil
  | cons e _ ih => exact .cons (s _ _ e) ih
theorem PD.off {H : Hp} {kvs : List (Key × V)} {ps : PTab} {d : Addr} {xs : List (Key × V)} {o' : HO} (h : PD H kvs ps) (hd : H d = some (.dK xs)) : PD (L2.upd H d o') kvs ps := by
  induction h with
  | nil => exact .nil
  | cons e _ ih => exact .cons (by rw [upd_ne (fun z => by rw [z, hd] at e; cases e)]; exact e) ih
theorem PD.rmd {H : Hp} {kvs : List (Key × V)} {ps : PTab} {d : Addr} {xs : List (Key × V)} (h : PD H kvs ps) (hd : H d = some (.dK xs)) : PD (rm d H) kvs ps := by
  induction h with
  | nil => exact .nil
  | cons e _ ih => exact .cons (by rw [rm_ne (fun z => by rw [z, hd] at e; cases e)]; exact e) ih
theorem PD.length {H : Hp} {kvs : List (Key × V)} {ps : PTab} (h : PD H kvs ps) : kvs.length = ps.length := by
  induction h with
  | nil => rfl
  | cons _ _ ih => rw [List.length_cons, List.length_cons, ih]
theorem PD.append {H : Hp} {a b : List (Key × V)} {s t : PTab} (h : PD H a s) (h' : PD H b t) : PD H (a ++ b) (s ++ t) := by
  induction h with
  | nil => exact h'
  | cons e _ ih => exact .cons e ih
theorem PD.val {H : Hp} {kvs : List (Key × V)} {ps : PTab} (h : PD H kvs ps) {c : Int} (hc : c ∈ ps.map (·.1)) : ∃ b, valV kvs (Sum.inl c : Key) = some (.ref b) ∧ H b = some (.lst ((lkP ps c).map V.int)) := by
  induction h with
  | nil => simp at hc
  | @cons k p b kvs ps e _ ih =>
    by_cases hk : k = c
    · subst hk
      exact ⟨b, valV_pos rfl, by simpa [lkP] using e⟩
    · obtain ⟨b', h1, h2⟩ := ih (by
        rw [List.map_cons, List.mem_cons] at hc
        rcases hc with z | z
        · exact absurd z.symm hk
        · exact z)
      refine ⟨b', by rw [valV_neg (by simpa using hk)]; exact h1, ?_⟩
      have : lkP ((k, p) :: ps) c = lkP ps c := by unfold lkP; rw [List.find?_cons]; simp [hk]
      rw [this]; exact h2
theorem PD.none {H : Hp} {kvs : List (Key × V)} {ps : PTab} (h : PD H kvs ps) {k : Int} (hk : k ∉ ps.map (·.1)) : valV kvs (Sum.inl k : Key) = Option.none := by
  induction h with
  | nil => rfl
  | @cons k' p b kvs ps e _ ih =>
    simp only [List.map_cons, List.mem_cons, not_or] at hk
    rw [valV_neg (by simpa using fun z => hk.1 z.symm)]
    exact ih hk.2
theorem PD.put {H : Hp} {kvs : List (Key × V)} {ps : PTab} (h : PD H kvs ps) {k : Int} {p : List Int} {b : Addr} (hk : k ∉ ps.map (·.1)) (eb : H b = some (.lst (p.map V.int))) : PD H (putK kvs (Sum.inl k : Key) (.ref b)) (ps ++ [(k, p)]) := by
  rw [putK_new _ (h.none hk)]
  exact h.append (.cons eb .nil)
theorem PD.drop {H : Hp} {kvs : List (Key × V)} {ps : PTab} (h : PD H kvs ps) (c : Int) : PD H (dropK kvs (Sum.inl c : Key)) (ps.filter fun e => decide (e.1 ≠ c)) := by
  induction h with
  | nil => exact .nil
  | @cons k p b kvs ps e _ ih =>
    unfold dropK at ih ⊢
    by_cases hk : k = c
    · subst hk
      rw [List.filter_cons, List.filter_cons, if_neg (by simp), if_neg (by simp)]
      exact ih
    · rw [List.filter_cons, List.filter_cons, if_pos (by simpa using hk), if_pos (by simpa using hk)]
      exact .cons e ih
theorem PD.get {H : Hp} {kvs : List (Key × V)} {ps : PTab} (h : PD H kvs ps) {i : Nat} {k : Key} {x : V} (hi : kvs[i]? = some (k, x)) : ∃ e b, ps[i]? = some e ∧ x = .ref b ∧ H b = some (.lst (e.2.map V.int)) := by
  induction h generalizing i with
  | nil => simp at hi
  | @cons k' p b kvs ps e _ ih =>
    cases i with
    | zero =>
      simp at hi
      exact ⟨(k', p), b, rfl, hi.2.symm, e⟩
    | succ i => exact ih (by simpa using hi)
noncomputable def tot (D : PTab) : Nat := (D.map fun e => e.2.length).sum
theorem lkP_none : ∀ {D : PTab} {c : Int}, c ∉ D.map (·.1) → lkP D c = []
  | [], _, _ => rfl
  | e :: D, c, h => by
    simp only [List.map_cons, List.mem_cons, not_or] at h
    have := lkP_none (D := D) (c := c) h.2
    unfold lkP at this ⊢
    rw [List.find?_cons]
    have hne : ¬ e.1 = c := fun z => h.1 z.symm
    simp only [hne, decide_false]
    exact this
theorem tot_pop : ∀ (D : PTab) (c : Int), (D.map (·.1)).Nodup → tot (D.filter fun e => decide (e.1 ≠ c)) + (lkP D c).length = tot D
  | [], _, _ => rfl
  | e :: D, c, hn => by
    obtain ⟨h1, h2⟩ := List.nodup_cons.mp (show (e.1 :: D.map (·.1)).Nodup from hn)
    have ih := tot_pop D c h2
    have t1 : tot (e :: D) = e.2.length + tot D := by simp [tot]
    by_cases hk : e.1 = c
    · subst hk
      have f : (e :: D).filter (fun x => decide (x.1 ≠ e.1)) = D.filter (fun x => decide (x.1 ≠ e.1)) := by rw [List.filter_cons, if_neg (by simp)]
      have l1 : lkP (e :: D) e.1 = e.2 := by simp [lkP]
      rw [f, l1, t1]
      rw [lkP_none h1, List.length_nil, Nat.add_zero] at ih
      lia
    · have f : (e :: D).filter (fun x => decide (x.1 ≠ c)) = e :: D.filter (fun x => decide (x.1 ≠ c)) := by rw [List.filter_cons, if_pos (by simpa using hk)]
      have l1 : lkP (e :: D) c = lkP D c := by unfold lkP; rw [List.find?_cons]; simp [hk]
      have t2 : tot (e :: D.filter fun x => decide (x.1 ≠ c)) = e.2.length + tot (D.filter fun x => decide (x.1 ≠ c)) := by simp [tot]
      rw [f, l1, t1, t2]
      lia
theorem tot_mem : ∀ {D : PTab} {e : Int × List Int}, e ∈ D → e.2.length ≤ tot D
  | x :: D, e, h => by
    have t1 : tot (x :: D) = x.2.length + tot D := by simp [tot]
    rcases List.mem_cons.mp h with rfl | h
    · lia
    · have := tot_mem h; lia
noncomputable def spPages : Sp := fun vs H Q _ => ∃ (v : V) (t : Tr) (room : Int) (td : Addr) (ts : List Int), vs = [v, .ref td] ∧ Rep H v (Tr.d t) ∧ t.ht < 80 ∧ t.size ≤ 60 ∧ t.keys.Nodup ∧ H td = some (.lst (ts.map V.int)) ∧ TdOk room ts t ∧
  ∀ r H' bs L, H r = none → Same H H' → H' r = some (.lst (bs.map V.ref)) → Pgs H' bs L → (∀ b ∈ bs, H b = none ∧ b ≠ r) → bs.Nodup → L.Perm (((en room t).map (·.2)).map so) → LexS L → Q (.ref r) H'
theorem pgs_of_pairs {H : Hp} : ∀ {ys : List (Addr × List Int)}, (∀ z ∈ ys, H z.1 = some (.lst (z.2.map V.int))) → Pgs H (ys.map (·.1)) (ys.map (·.2))
  | [], _ => trivial
  | y :: ys, h => ⟨h y (.head _), pgs_of_pairs fun z hz => h z (.tail _ hz)⟩
section
variable {P : Program} {w : World} {K : PySem.W.Frag} {mg : Str → Option Value} {base : Heap}
theorem ok_pages {f : Addr} (F : Fd K mg "pages_tied" s_pages_tied f) (T : Tx K mg) (C_with_kids : Cal P w K mg base CX0 80 "with_kids" (spWk 80)) : Cal P w K mg base CX0 82 "pages_tied" spPages := by
  refine F.cal sc_pages_tied (fun _ _ _ _ _ _ us hl => L3.bind2 (fun _ _ => rfl) us hl) (fun vs H Q E h => ?_) (fun cdv A outer s H vs Q E hr h => ?_)
  · obtain ⟨v, t, room, td, ts, rfl, _⟩ := h; rfl
  · obtain ⟨v, t, room, td, ts, rfl, hv, ht, hz, hnd, etd, hok, q⟩ := h
    refine ⟨_, (bcons (sset (i := 2) sc_pages_tied.nd rfl (by first | exact Or.inl rfl | exact Or.inr rfl) qdict)
      (bcons (sfor PassesOwn.never rfl (iseq K (qF C_with_kids (hr.mono (by lia)) pass0 rfl (qcons (qv 0) qnil))) (gtup (n := 2) K rfl (gscons (gname (i := 3) sc_pages_tied.nd rfl (by first | exact Or.inl rfl | exact Or.inr rfl)) (gscons (gname (i := 4) sc_pages_tied.nd rfl (by first | exact Or.inl rfl | exact Or.inr rfl)) gsnil)))
        (bcons (sset (i := 5) sc_pages_tied.nd rfl (by first | exact Or.inl rfl | exact Or.inr rfl) (qlst (qcons (qv 3) qnil)))
        (bcons (sfor PassesOwn.never rfl (iseq K (qv 4)) (gname (i := 6) sc_pages_tied.nd rfl (by first | exact Or.inl rfl | exact Or.inr rfl))
          (bone (sif (tcmp (rInn K) (qv 6) (qv 1) (by with_unfolding_all rfl)) (bone (sexpr (qBm K PySem.F.plainAttrs_list PySem.F.slot_list_extend PySem.F.type_list_extend mExtend (qv 5) (qcons (qdp1 (qv 2) (qv 6)) qnil)))) bnil)))
        (bone (sdput hr (qv 2) (qv 3) (qv 5) rfl)))))
      (bone (sret (qB (fSortLL K hr) rfl T.b_sorted bt_sorted (qcons (qcomp (sc := defScope s_pages_tied) (NX := ["tree", "tied", "pages", "key", "kids", "page", "kid"]) ["page"] [none] rfl (ivals (qv 2)) (fun _ _ _ => (gname (i := 0) (show (["page"] : List Str).Nodup by decide +kernel) rfl (by first | exact Or.inl rfl | exact Or.inr rfl))) (fun _ _ _ => csnil) (fun _ _ _ => (qB (fSort K) rfl T.b_sorted bt_sorted (qcons (qv 0) qnil))) rfl rfl (by decide +kernel)) qnil)))))), ?_⟩
    refine fun d H1 n1 s1 e1 _ => ?_
    refine ⟨_, rfl, v, t, rfl, hv.mono s1, ht, by lia, fun r H2 ws n2 s2 e2 x2 g2 => ?_⟩
    have ed2 := s2 _ _ e1
    have hrd : r ≠ d := fun z => by rw [z, e1] at n2; cases n2
    have gB : Reps (rm d H2) ws (t.wk.map kidD) := x2 _ _ e1
    have eB : rm d H2 r = some (.lst ws) := by rw [rm_ne hrd]; exact e2
    have sHB : Same H (rm d H2) := fun b o hb => by rw [rm_ne (ne_of_none hb n1)]; exact s2 _ _ (s1 _ _ hb)
    have hlw := g2.length
    rw [List.length_map, Tr.wk_length] at hlw
    have OKF := okF_tree room ts t [] hnd hok (fun e he => by cases he) List.nodup_nil
    have hfold := fold_en room ts t [] hnd hok (fun e he => by cases he)
    refine ⟨r, rfl, .inl ⟨⟨_, SqL.of e2⟩, for_listN (xs := ws) (fun i σ H' => ∃ z3 z4 z5 z6 kvs ps, σ = [some v, some (.ref td), some (.ref d), z3, z4, z5, z6] ∧ Same (rm d H2) H' ∧ H' d = some (.dK kvs) ∧ PD H' kvs ps ∧ ps = (t.wk.take i).foldl (stp ts) [] ∧ tot ps = i ∧ ps.length ≤ i)
      ⟨none, none, none, none, [], [], rfl, rm_same, ed2, .nil, rfl, rfl, Nat.le_refl _⟩ (fun i σ H' _ hh => by obtain ⟨_, _, _, _, _, _, _, s', _⟩ := hh; exact SqL.of (s' _ _ eB)) ?_ ?_⟩⟩
    · rintro N B R i x σ H3 hx hN _ _ ⟨z3, z4, z5, z6, kvs, ps, rfl, s3, ed, pd, hps, htot, hpl⟩
      have hi : i < ws.length := (List.getElem?_eq_some_iff.mp hx).1
      obtain ⟨e, he, ge⟩ := reps_map gB hx
      obtain ⟨b, c, rfl, eb, ec⟩ := rep_kid ge
      have eb3 := s3 _ _ eb
      have ec3 := s3 _ _ ec
      have etd3 : H3 td = some (.lst (ts.map V.int)) := s3 _ _ (sHB _ _ etd)
      obtain ⟨ok1, ok2, ok3, ok4⟩ := okF_at ts t.wk [] i e OKF he
      rw [← hps] at ok1 ok3 ok4
      have hstp : (t.wk.take (i + 1)).foldl (stp ts) [] = stp ts ps e := by rw [List.take_add_one, he, List.foldl_append, ← hps]; rfl
      refine ⟨b, _, rfl, SqT.of eb3, rfl, _, _, rfl, _, _, rfl, rfl, ?_⟩
      refine ⟨_, rfl, (show 1 ≤ sizeLine by decide), fun pg H4 n4 s4 e4 _ => ?_⟩
      have hdp : d ≠ pg := fun z => by rw [z, n4] at ed; cases ed
      have hcd : c ≠ d := fun z => by rw [z, rm_self] at ec; cases ec
      have hcp : c ≠ pg := fun z => by rw [z, n4] at ec3; cases ec3
      have htp : td ≠ pg := fun z => by rw [z, n4] at etd3; cases etd3
      have htdd : td ≠ d := ne_of_none etd n1
      refine ⟨_, rfl, c, rfl, .inl ⟨⟨_, SqL.of (s4 _ _ ec3)⟩, for_listN (xs := e.2.map V.int) (fun j σ H' => ∃ z6 kvs' D p, σ = [some v, some (.ref td), some (.ref d), some (.int e.1), some (.ref c), some (.ref pg), z6] ∧ Same (rm pg (rm d H4)) H' ∧ H' d = some (.dK kvs') ∧ H' pg = some (.lst (p.map V.int)) ∧ PD (rm pg H') kvs' D ∧ (D, p) = (e.2.take j).foldl (stK ts) (ps, [e.1]) ∧
          (D.map (·.1)).Nodup ∧ tot D + p.length = i + 1 ∧ (∀ c ∈ e.2.drop j, c ∈ D.map (·.1)) ∧ (∀ x ∈ D.map (·.1), x ∈ ps.map (·.1)) ∧ D.length ≤ ps.length)
        ⟨z6, kvs, ps, [e.1], rfl, fun x o hx => by
            have h1 : x ≠ pg := fun z => by rw [z, rm_self] at hx; cases hx
            rw [rm_ne h1] at hx
            exact rm_same _ _ hx, s4 _ _ ed, e4, pd.mono (rm_of s4 n4), rfl, ok4, by rw [htot]; rfl, fun c hc => ok1 c (by simpa using hc), fun x hx => hx, Nat.le_refl _⟩
        (fun j σ H' _ hh => by obtain ⟨_, _, _, _, _, s', _⟩ := hh; exact SqL.of (s' _ _ (by rw [rm_ne hcp, rm_ne hcd]; exact s4 _ _ ec3))) ?_ ?_⟩⟩
      · rintro N1 B1 R1 j y σ H5 hy hN1 _ _ ⟨z6', kvs', D, p, rfl, s5, ed5, ep5, pd5, hDp, hDn, hDt, hDc, hDs, hDl⟩
        rw [List.getElem?_map] at hy
        obtain ⟨kk, hkk, rfl⟩ := Option.map_eq_some_iff.mp hy
        have etd5 : H5 td = some (.lst (ts.map V.int)) := s5 _ _ (by rw [rm_ne htp, rm_ne htdd]; exact s4 _ _ etd3)
        have hdrop : e.2.drop j = kk :: e.2.drop (j + 1) := by
          obtain ⟨hj, hj'⟩ := List.getElem?_eq_some_iff.mp hkk
          rw [List.drop_eq_getElem_cons hj, hj']
        have hst : (e.2.take (j + 1)).foldl (stK ts) (ps, [e.1]) = stK ts (D, p) kk := by rw [List.take_add_one, hkk, List.foldl_append, ← hDp]; rfl
        refine ⟨_, rfl, _, rfl, td, _, rfl, .inl (SqL.of etd5), rfl, flat_ints _, _, rfl, ?_⟩
        rw [inV_ints]
        by_cases hin : kk ∈ ts
        · rw [decide_eq_true hin]
          refine iteT ?_
          have hkD : kk ∈ D.map (·.1) := hDc kk (by rw [hdrop]; exact .head _)
          obtain ⟨bp, hv1, hb1⟩ := pd5.val hkD
          have hbp : bp ≠ pg := fun z => by rw [z, rm_self] at hb1; cases hb1
          rw [rm_ne hbp] at hb1
          have hbd : bp ≠ d := fun z => by rw [z, ed5] at hb1; cases hb1
          have htp := tot_pop D kk hDn
          refine ⟨_, rfl, .inl ⟨rfl, _, SqL.of ep5⟩, _, rfl, d, rfl, .inl ⟨_, .inl ed5⟩, _, rfl, kvs', (Sum.inl kk : Key), .ref bp, ed5, rfl, hv1, ?_⟩
          refine ⟨pg, bp, _, _, rfl, rfl, by rw [upd_ne hdp.symm]; exact ep5, by rw [upd_ne hbd]; exact hb1, sizeBig' (by rw [List.length_map, List.length_map]; lia), ?_⟩
          have hst' : stK ts (D, p) kk = (D.filter (fun e => decide (e.1 ≠ kk)), p ++ lkP D kk) := by unfold stK; rw [if_pos hin]
          refine hN1 _ _ ⟨_, dropK kvs' (Sum.inl kk), D.filter (fun e => decide (e.1 ≠ kk)), p ++ lkP D kk, rfl, same_upd (same_upd s5 (by rw [rm_ne hdp]; exact rm_self)) rm_self, by rw [upd_ne hdp, upd_same], by rw [upd_same, List.map_append], ?_, by rw [hst, hst'], ?_, ?_, ?_, ?_, ?_⟩
          · rw [rm_upd]
            have : PD (upd (rm pg H5) d (.dK (dropK kvs' (Sum.inl kk)))) (dropK kvs' (Sum.inl kk)) (D.filter fun e => decide (e.1 ≠ kk)) := (pd5.drop kk).off (xs := kvs') (by rw [rm_ne hdp]; exact ed5)
            refine this.mono fun x o hx => ?_
            by_cases hxd : x = d
            · subst hxd
              rw [upd_same] at hx
              rw [rm_ne hdp, upd_same]; exact hx
            · rw [upd_ne hxd] at hx
              have hxp : x ≠ pg := fun z => by rw [z, rm_self] at hx; cases hx
              rw [rm_ne hxp] at hx
              rw [rm_ne hxp, upd_ne hxd]; exact hx
          · exact List.Nodup.sublist (List.Sublist.map _ List.filter_sublist) hDn
          · rw [List.length_append]; lia
          · intro c hc
            have h1 := hDc c (by rw [hdrop]; exact .tail _ hc)
            obtain ⟨x, hx, rfl⟩ := List.mem_map.mp h1
            have hne : x.1 ≠ kk := fun z => by
              have hnd' : (kk :: e.2.drop (j + 1)).Nodup := by rw [← hdrop]; exact List.Nodup.sublist (List.drop_sublist _ _) ok2
              exact (List.nodup_cons.mp hnd').1 (by rw [← z]; exact hc)
            exact List.mem_map.mpr ⟨x, List.mem_filter.mpr ⟨hx, decide_eq_true hne⟩, rfl⟩
          · intro x hx
            obtain ⟨y, hy, rfl⟩ := List.mem_map.mp hx
            exact hDs _ (List.mem_map.mpr ⟨y, (List.mem_filter.mp hy).1, rfl⟩)
          · have := List.length_filter_le (fun e : Int × List Int => decide (e.1 ≠ kk)) D
            lia
        · rw [decide_eq_false hin]
          refine iteF ?_
          have hst' : stK ts (D, p) kk = (D, p) := by unfold stK; rw [if_neg hin]
          exact hN1 _ _ ⟨_, kvs', D, p, rfl, s5, ed5, ep5, pd5, by rw [hst, hst'], hDn, hDt, fun c hc => hDc c (by rw [hdrop]; exact .tail _ hc), hDs, hDl⟩
      · rintro σ H5 ⟨z6', kvs', D, p, rfl, s5, ed5, ep5, pd5, hDp, hDn, hDt, hDc, hDs, hDl⟩
        rw [List.length_map, List.take_length] at hDp
        have hkl := pd5.length
        have he1 : e.1 ∉ D.map (·.1) := fun h => ok3 (hDs _ h)
        refine ⟨_, rfl, _, rfl, _, rfl, d, _, rfl, DPut.k (k := (Sum.inl e.1 : Key)) ed5 (sizeBig (by lia)), ?_⟩
        have hsd : stp ts ps e = D ++ [(e.1, p)] := by unfold stp; rw [← hDp]
        refine hN _ _ ⟨_, _, _, _, putK kvs' (Sum.inl e.1) (.ref pg), D ++ [(e.1, p)], rfl, ?_, upd_same, ?_, by rw [hstp, hsd], ?_, ?_⟩
        · refine same_upd (fun x o hx => ?_) rm_self
          have hxd : x ≠ d := fun z => by rw [z, rm_self] at hx; cases hx
          have h3 := s3 _ _ hx
          have hxp : x ≠ pg := ne_of_none h3 n4
          exact s5 _ _ (by rw [rm_ne hxp, rm_ne hxd]; exact s4 _ _ h3)
        · exact ((pd5.mono rm_same).put he1 ep5).off ed5
        · simp [tot] at hDt ⊢; lia
        · simp; lia
    · rintro σ H3 ⟨z3, z4, z5, z6, kvs, ps, rfl, s3, ed, pd, hps, htot, hpl⟩
      rw [List.take_of_length_le (by rw [Tr.wk_length]; lia), hfold, List.nil_append] at hps
      subst hps
      have sH3 : Same H H3 := sHB.trans s3
      have hkl := pd.length
      refine ⟨_, rfl, d, kvs, rfl, .inl ed, fun ob H4 e4 s4 acc ha => ?_⟩
      have pd4 : PD (rm d H3) kvs (en room t) := pd.rmd ed
      have sH4 : Same H H4 := fun x o hx => s4 _ _ (by rw [rm_ne (ne_of_none hx n1)]; exact sH3 _ _ hx)
      have hda : d ≠ acc := fun z => by rw [z, ha] at e4; cases e4
      refine comp_vals (kvs := kvs) (fun i ys σ H' => ∃ (z : Option V) (zs : List (Addr × List Int)), σ = [z] ∧ H' d = some (.frz ob (.dK kvs)) ∧ Same H4 H' ∧ H' acc = some (.lst ys) ∧ ys = zs.map (fun z => V.ref z.1) ∧ zs.length = i ∧ (∀ z ∈ zs, H' z.1 = some (.lst (z.2.map V.int)) ∧ H4 z.1 = none ∧ z.1 ≠ acc) ∧ (zs.map (·.1)).Nodup ∧ zs.map (·.2) = (((en room t).take i).map (·.2)).map so)
        ⟨none, [], rfl, by rw [upd_ne hda]; exact e4, same_new ha, upd_same, rfl, rfl, (fun z hz => by cases hz), List.nodup_nil, rfl⟩ (fun i ys σ H' hh => by obtain ⟨_, _, _, e', _⟩ := hh; exact e') ?_ ?_
      · rintro i ys k x σ H5 hkv hi ⟨z, zs, rfl, e5, s5, ea5, rfl, hzl, hzs, hzn, hzm⟩
        obtain ⟨e, b, he, rfl, eb⟩ := pd4.get hkv
        have eb5 : H5 b = some (.lst (e.2.map V.int)) := s5 _ _ (s4 _ _ eb)
        have hle := tot_mem (List.mem_of_getElem? he)
        refine ⟨_, rfl, b, e.2, rfl, SqL.of eb5, by lia, fun q6 H6 ns6 n6 s6 e6 pm6 so6 => ?_⟩
        have hns : ns6 = so e.2 := so_one pm6 so6
        subst hns
        have hqa : q6 ≠ acc := fun z => by rw [z, ea5] at n6; cases n6
        refine cpost (s6 _ _ ea5) (sizeBig (by rw [List.length_map]; lia)) hi ?_
        have hdq : d ≠ acc := hda
        refine ⟨_, zs ++ [(q6, so e.2)], rfl, by rw [upd_ne hda]; exact s6 _ _ e5, same_upd (s5.trans s6) ha, upd_same, by rw [List.map_append]; rfl, by simp [hzl], fun z hz => ?_, ?_, ?_⟩
        · rcases List.mem_append.mp hz with hz | hz
          · obtain ⟨h1, h2, h3⟩ := hzs z hz
            exact ⟨by rw [upd_ne h3]; exact s6 _ _ h1, h2, h3⟩
          · rw [List.mem_singleton] at hz
            subst hz
            exact ⟨by rw [upd_ne hqa]; exact e6, s5.free n6, hqa⟩
        · rw [List.map_append, List.nodup_append]
          refine ⟨hzn, by simp, fun a ha' b' hb' z => ?_⟩
          obtain ⟨y, hy, rfl⟩ := List.mem_map.mp ha'
          have : b' = q6 := by simpa using hb'
          subst this
          have h1 := (hzs y hy).1
          rw [z, n6] at h1; cases h1
        · rw [List.map_append, hzm, List.take_add_one, he, List.map_append, List.map_append]; rfl
      · rintro ys σ H5 ⟨z, zs, rfl, e5, s5, ea5, rfl, hzl, hzs, hzn, hzm⟩
        rw [hkl, List.take_length] at hzm
        refine ⟨acc, zs, rfl, SqL.of ea5, by lia, fun z hz => (hzs z hz).1, fun q6 H6 ys6 n6 s6 e6 _ pm6 lx6 => ?_⟩
        have sH5 : Same H H5 := sH4.trans s5
        refine q q6 H6 (ys6.map (·.1)) (ys6.map (·.2)) (sH5.free n6) (sH5.trans s6) (by rw [List.map_map]; exact e6) (pgs_of_pairs fun z hz => s6 _ _ (hzs z (pm6.mem_iff.mp hz)).1) (fun b hb => ?_) ((pm6.map _).nodup_iff.mpr hzn) (by rw [← hzm]; exact pm6.map _) (List.pairwise_map.mpr lx6)
        obtain ⟨z, hz, rfl⟩ := List.mem_map.mp hb
        obtain ⟨h1, h2, h3⟩ := hzs z (pm6.mem_iff.mp hz)
        exact ⟨sH4.free h2, fun zz => by rw [zz, n6] at h1; cases h1⟩
end
end K41C
namespace K41C
open PySem L2 L3 K41
noncomputable def spBy : Sp := fun vs H Q _ => ∃ (v : V) (t : Tr) (room : Int), vs = [v, .int room] ∧ Rep H v (Tr.d t) ∧ t.ht < 80 ∧ t.size ≤ 60 ∧ t.keys.Nodup ∧
  ∀ r H' bs L, H r = none → Same H H' → H' r = some (.lst (bs.map V.ref)) → Pgs H' bs L → (∀ b ∈ bs, H b = none ∧ b ≠ r) → bs.Nodup → L.Perm (((en room t).map (·.2)).map so) → LexS L → Q (.ref r) H'
theorem td_ok (room : Int) {t : Tr} (hnd : t.keys.Nodup) : TdOk room ((tP (t.pt room) t.wk).map (·.2)) t := by
  rw [tP_tS room (Tr.pt_nodup room hnd) t fun e he => he, tS_tdS]
  exact tdOk_of room _ t hnd fun c _ => Iff.rfl
section
variable {P : Program} {w : World} {K : PySem.W.Frag} {mg : Str → Option Value} {base : Heap}
theorem ok_by {f : Addr} (F : Fd K mg "by_marks" s_by_marks f) (T : Tx K mg) (C_tied_pairs : Cal P w K mg base CX0 82 "tied_pairs" spTied) (C_marks_by_key : Cal P w K mg base CX0 82 "marks_by_key" spByKey) (C_pages_tied : Cal P w K mg base CX0 82 "pages_tied" spPages) : Cal P w K mg base CX0 84 "by_marks" spBy := by
  refine F.cal sc_by_marks (fun _ _ _ _ _ _ us hl => L3.bind2 (fun _ _ => rfl) us hl) (fun vs H Q E h => ?_) (fun cdv A outer s H vs Q E hr h => ?_)
  · obtain ⟨v, t, room, rfl, _⟩ := h; rfl
  · obtain ⟨v, t, room, rfl, hv, ht, hz, hnd, q⟩ := h
    refine ⟨_, (bcons (sset (i := 2) sc_by_marks.nd rfl (by first | exact Or.inl rfl | exact Or.inr rfl) (qF C_tied_pairs (hr.mono (by lia)) pass0 rfl (qcons (qv 0) (qcons (qF C_marks_by_key (hr.mono (by lia)) pass0 rfl (qcons (qv 0) (qcons (qv 1) qnil))) qnil))))
      (bone (sret (qF C_pages_tied (hr.mono (by lia)) pass0 rfl (qcons (qv 0) (qcons (qcomp (sc := defScope s_by_marks) (NX := ["tree", "room", "pairs"]) ["key", "kid"] [none, none] rfl (iseq K (qv 2)) (fun _ _ _ => (gtup (n := 2) K rfl (gscons (gname (i := 0) (show (["key", "kid"] : List Str).Nodup by decide +kernel) rfl (by first | exact Or.inl rfl | exact Or.inr rfl)) (gscons (gname (i := 1) (show (["key", "kid"] : List Str).Nodup by decide +kernel) rfl (by first | exact Or.inl rfl | exact Or.inr rfl)) gsnil)))) (fun _ _ _ => csnil) (fun _ _ _ => (qv 1)) rfl rfl (by decide +kernel)) qnil)))))), ?_⟩
    refine ⟨_, rfl, _, rfl, _, rfl, v, t, room, rfl, hv, ht, by lia, hnd, fun d H1 kvs n1 s1 e1 D1 => ?_⟩
    refine ⟨v, t, _, d, kvs, rfl, hv.mono s1, ht, by lia, e1, D1, known_pt room hnd, fun r H2 ws n2 s2 e2 g2 => ?_⟩
    have hlen := tie_len (t.pt room) t
    have hwl := g2.length
    rw [List.length_map] at hwl
    refine ⟨_, rfl, _, rfl, r, rfl, .inl ⟨⟨_, SqL.of e2⟩, fun acc ha => ?_⟩⟩
    refine comp_list (xs := ws) (fun i ys σ H' => ∃ z1 z2, σ = [z1, z2] ∧ Same H2 H' ∧ H' acc = some (.lst ys) ∧ ys = (((tP (t.pt room) t.wk).take i).map (·.2)).map V.int) ⟨none, none, rfl, same_new ha, upd_same, rfl⟩ (fun i ys σ H' hh => by obtain ⟨_, _, _, s', _⟩ := hh; exact SqL.of (s' _ _ e2)) ?_ ?_
    · rintro i ys y σ G hy hi ⟨z1, z2, rfl, sG, eG, rfl⟩
      obtain ⟨p, hp, gp⟩ := reps_map g2 hy
      obtain ⟨b, rfl, eb⟩ := rep_pair (gp.mono sG)
      refine ⟨b, _, rfl, SqT.of eb, rfl, _, _, rfl, _, _, rfl, rfl, ?_⟩
      refine ⟨_, rfl, ?_⟩
      refine cpost eG (sizeBig (by simp; lia)) hi ?_
      exact ⟨_, _, rfl, same_upd sG ha, upd_same, by rw [List.take_add_one, hp, List.map_append, List.map_append]; rfl⟩
    · rintro ys σ H3 ⟨z1, z2, rfl, s3, e3, rfl⟩
      rw [List.take_of_length_le (by lia)] at e3
      have s13 := s1.trans (s2.trans s3)
      refine ⟨v, t, room, acc, _, rfl, hv.mono s13, ht, hz, hnd, e3, td_ok room hnd, fun r4 H4 bs L n4 s4 e4 p4 hb nd pm lx => ?_⟩
      exact q r4 H4 bs L (s13.free n4) (s13.trans s4) e4 p4 (fun b hb' => ⟨s13.free (hb b hb').1, (hb b hb').2⟩) nd pm lx
end
end K41C
namespace K41C
open PySem L2 L3 K41
noncomputable def mk0 (tb : Tab) (k : Int) : Int × Int := (look tb k).getD (0, 0)
noncomputable def topL (tb : Tab) : Tr → Int
  | .nil => 0
  | .node _ k _ => (mk0 tb k).1
section
variable {P : Program} {w : World} {K : PySem.W.Frag} {mg : Str → Option Value} {base : Heap}
theorem rep_row {H : Hp} {v : V} {e : Int × Int × Int} (h : Rep H v (rowD e)) : ∃ b, v = .ref b ∧ H b = some (.tup [.int e.1, .int e.2.1, .int e.2.2]) := by
  obtain ⟨a, vs, rfl, ea, rs⟩ := rep_tup h
  cases rs with
  | cons h1 rs =>
    cases rs with
    | cons h2 rs =>
      cases rs with
      | cons h3 rs =>
        cases rs
        cases rep_int h1
        cases rep_int h2
        cases rep_int h3
        exact ⟨a, rfl, ea⟩
theorem dget_dt {H : Hp} {d : Addr} {kvs : List (Key × V)} {tb : Tab} {k : Int} (ed : H d = some (.dK kvs)) (D0 : DT H kvs tb) (hk : look tb k = some (mk0 tb k)) : ∃ bm, (∀ H', Same H H' → DGet H' d (.int k) (some (.ref bm))) ∧ H bm = some (.tup [.int (mk0 tb k).1, .int (mk0 tb k).2]) := by
  obtain ⟨bm, hv1, hb1⟩ := D0.val hk
  refine ⟨bm, fun H' s' => ?_, hb1⟩
  have := DGet.k (k := (Sum.inl k : Key)) (s' _ _ ed)
  rw [hv1] at this
  exact this
noncomputable def spTop : Sp := fun vs H Q _ => ∃ (v : V) (t : Tr) (tb : Tab) (d : Addr) (kvs : List (Key × V)), vs = [v, .ref d] ∧ Rep H v (Tr.d t) ∧ H d = some (.dK kvs) ∧ DT H kvs tb ∧ (∀ x ∈ t.key?, look tb x = some (mk0 tb x)) ∧ Q (.int (topL tb t)) H
theorem ok_top {f : Addr} (F : Fd K mg "top_level" s_top_level f) (T : Tx K mg) : Cal P w K mg base CX0 1 "top_level" spTop := by
  refine F.cal sc_top_level (fun _ _ _ _ _ _ us hl => L3.bind2 (fun _ _ => rfl) us hl) (fun vs H Q E h => ?_) (fun cdv A outer s H vs Q E hr h => ?_)
  · obtain ⟨v, t, tb, d, kvs, rfl, _⟩ := h; rfl
  · obtain ⟨v, t, tb, d, kvs, rfl, hv, ed, D0, hlk, q⟩ := h
    refine ⟨_, (bone (sret (qif (tcmp rIs (qv 0) qnon (nomark _)) qint (qix (xIx K) (qdget hr (qv 1) (qix (xIx K) (qv 0) qint (fun _ _ => rfl)) (fun _ _ => rfl)) qint (fun _ _ => rfl))))), ?_⟩
    cases t with
    | nil =>
      cases rep_nil hv
      refine ⟨_, rfl, rfl, _, rfl, ?_⟩
      refine iteT ?_
      exact q
    | node l x r =>
      obtain ⟨a, vl, vr, rfl, ea, _, _⟩ := rep_node hv
      obtain ⟨bx, hgx, hbx⟩ := dget_dt ed D0 (hlk x (by simp [Tr.key?]))
      refine ⟨_, rfl, rfl, _, rfl, ?_⟩
      refine iteF ?_
      refine ⟨_, rfl, _, rfl, a, _, 1, _, rfl, rfl, .inr (SqT.of ea), atI_nat (j := 1) rfl, d, .ref bx, rfl, hgx _ (Same.refl _), bx, _, 0, _, rfl, rfl, .inr (SqT.of hbx), atI_nat (j := 0) rfl, ?_⟩
      exact q
end
end K41C
namespace K41C
open PySem L2 L3 K41
noncomputable def heir : Tr → Int
  | .nil => 0
  | .node .nil x _ => x
  | .node (.node a b c) _ _ => heir (.node a b c)
instance (t : Tr) : Decidable (t = .nil) := match t with
  | .nil => isTrue rfl
  | .node .. => isFalse (fun h => nomatch h)
noncomputable def del : Tr → Int → Tr
  | .nil, _ => .nil
  | .node l x r, k => if k < x then .node (del l k) x r else if x < k then .node l x (del r k) else if l = .nil then r else if r = .nil then l else .node l (heir r) (del r (heir r))
theorem heir_l {l r : Tr} {x : Int} (h : l ≠ .nil) : heir (.node l x r) = heir l := by
  cases l with
  | nil => exact absurd rfl h
  | node a b c => rfl
theorem heir_keys : ∀ t : Tr, t ≠ .nil → t.keys[0]? = some (heir t)
  | .nil, h => absurd rfl h
  | .node .nil x r, _ => rfl
  | .node (.node a b c) x r, _ => by
    have := heir_keys (.node a b c) (by simp)
    rw [heir_l (by simp), Tr.keys, List.append_assoc, List.getElem?_append_left (by
      rw [Tr.keys_length, Tr.size]; lia)]
    exact this
theorem heir_mem {t : Tr} (h : t ≠ .nil) : heir t ∈ t.keys := List.mem_of_getElem? (heir_keys t h)
theorem del_ht : ∀ (t : Tr) (k : Int), (del t k).size ≤ t.size
  | .nil, k => Nat.le_refl _
  | .node l x r, k => by
    have h1 := del_ht l k
    have h2 := del_ht r k
    have h3 := del_ht r (heir r)
    rw [del]
    split
    · simp only [Tr.size]; lia
    · split
      · simp only [Tr.size]; lia
      · split
        · simp only [Tr.size]; lia
        · split
          · simp only [Tr.size]; lia
          · simp only [Tr.size]; lia
theorem del_sub : ∀ (t : Tr) (k y : Int), y ∈ (del t k).keys → y ∈ t.keys
  | .nil, k, y, h => h
  | .node l x r, k, y, h => by
    rw [del] at h
    split at h
    · simp only [Tr.keys, List.mem_append, List.mem_singleton] at h ⊢
      rcases h with (h | h) | h
      · exact .inl (.inl (del_sub l k y h))
      · exact .inl (.inr h)
      · exact .inr h
    · split at h
      · simp only [Tr.keys, List.mem_append, List.mem_singleton] at h ⊢
        rcases h with (h | h) | h
        · exact .inl (.inl h)
        · exact .inl (.inr h)
        · exact .inr (del_sub r k y h)
      · split at h
        · simp only [Tr.keys, List.mem_append, List.mem_singleton]; exact .inr h
        · split at h
          · simp only [Tr.keys, List.mem_append, List.mem_singleton]; exact .inl (.inl h)
          · rename_i h1 h2
            simp only [Tr.keys, List.mem_append, List.mem_singleton] at h ⊢
            rcases h with (h | h) | h
            · exact .inl (.inl h)
            · rw [h]; exact .inr (heir_mem h2)
            · exact .inr (del_sub r _ y h)
theorem heir_least : ∀ (t : Tr) (lo hi : Option Int), t.ord lo hi → ∀ y ∈ t.keys, heir t ≤ y
  | .nil, _, _, _, y, hy => by simp [Tr.keys] at hy
  | .node .nil x r, lo, hi, ho, y, hy => by
    simp only [Tr.keys, List.nil_append, List.mem_append, List.mem_singleton] at hy
    rcases hy with rfl | hy
    · exact Int.le_refl _
    · have := ord_r ho hy
      show x ≤ y
      lia
  | .node (.node a b c) x r, lo, hi, ho, y, hy => by
    rw [heir_l (by simp)]
    have hm := ord_l ho (heir_mem (t := .node a b c) (by simp))
    rw [Tr.keys, List.mem_append, List.mem_append, List.mem_singleton] at hy
    rcases hy with (hy | rfl) | hy
    · exact heir_least _ _ _ ho.2.2.1 y hy
    · lia
    · have := ord_r ho hy
      lia
theorem ord_weak : ∀ (t : Tr) (lo lo' hi : Option Int), t.ord lo hi → (∀ y ∈ t.keys, ∀ a, lo' = some a → a < y) → t.ord lo' hi
  | .nil, _, _, _, _, _ => trivial
  | .node l x r, lo, lo', hi, h, hy => ⟨fun a ha => hy x (by simp [Tr.keys]) a ha, h.2.1, ord_weak l lo lo' _ h.2.2.1 fun y hm a ha => hy y (by simp [Tr.keys, hm]) a ha, h.2.2.2⟩
theorem ord_weakH : ∀ (t : Tr) (lo hi hi' : Option Int), t.ord lo hi → (∀ y ∈ t.keys, ∀ a, hi' = some a → y < a) → t.ord lo hi'
  | .nil, _, _, _, _, _ => trivial
  | .node l x r, lo, hi, hi', h, hy => ⟨h.1, fun a ha => hy x (by simp [Tr.keys]) a ha, h.2.2.1, ord_weakH r _ hi hi' h.2.2.2 fun y hm a ha => hy y (by simp [Tr.keys, hm]) a ha⟩
theorem del_not : ∀ (t : Tr) (k : Int) (lo hi : Option Int), t.ord lo hi → k ∉ (del t k).keys
  | .nil, k, _, _, _, h => by simp [del, Tr.keys] at h
  | .node l x r, k, lo, hi, ho, h => by
    rw [del] at h
    by_cases c : k < x
    · rw [if_pos c] at h
      simp only [Tr.keys, List.mem_append, List.mem_singleton] at h
      rcases h with (h | h) | h
      · exact del_not l k _ _ ho.2.2.1 h
      · lia
      · have := ord_r ho h; lia
    · rw [if_neg c] at h
      by_cases d : x < k
      · rw [if_pos d] at h
        simp only [Tr.keys, List.mem_append, List.mem_singleton] at h
        rcases h with (h | h) | h
        · have := ord_l ho h; lia
        · lia
        · exact del_not r k _ _ ho.2.2.2 h
      · rw [if_neg d] at h
        split at h
        · have := ord_r ho h; lia
        · split at h
          · have := ord_l ho h; lia
          · rename_i h1 h2
            simp only [Tr.keys, List.mem_append, List.mem_singleton] at h
            have hh := ord_r ho (heir_mem h2)
            rcases h with (h | h) | h
            · have := ord_l ho h; lia
            · lia
            · have := ord_r ho (del_sub r _ _ h); lia
theorem del_ord : ∀ (t : Tr) (k : Int) (lo hi : Option Int), t.ord lo hi → (del t k).ord lo hi
  | .nil, k, _, _, h => h
  | .node l x r, k, lo, hi, ho => by
    rw [del]
    split
    · exact ⟨ho.1, ho.2.1, del_ord l k _ _ ho.2.2.1, ho.2.2.2⟩
    · split
      · exact ⟨ho.1, ho.2.1, ho.2.2.1, del_ord r k _ _ ho.2.2.2⟩
      · split
        · exact ord_weak r _ lo _ ho.2.2.2 fun y hy a ha => by
            have h1 := ord_r ho hy
            have h2 := ho.1 a ha
            lia
        · split
          · exact ord_weakH l _ _ hi ho.2.2.1 fun y hy a ha => by
              have h1 := ord_l ho hy
              have h2 := ho.2.1 a ha
              lia
          · rename_i h1 h2
            have hm := heir_mem h2
            have hx := ord_r ho hm
            refine ⟨fun a ha => ?_, fun b hb => ?_, ?_, ?_⟩
            · have := ho.1 a ha; lia
            · exact (ord_bd r _ _ ho.2.2.2 _ hm).2 b hb
            · exact ord_weakH l _ _ _ ho.2.2.1 fun y hy a ha => by
                cases ha
                have := ord_l ho hy
                lia
            · exact ord_weak _ _ _ _ (del_ord r (heir r) _ _ ho.2.2.2) fun y hy a ha => by
                cases ha
                have h3 := heir_least r _ _ ho.2.2.2 y (del_sub r _ y hy)
                have h4 : y ≠ heir r := fun z => del_not r (heir r) _ _ ho.2.2.2 (by rw [z] at hy; exact hy)
                lia
theorem heir_atI {t : Tr} (h : t ≠ .nil) : atI (t.keys.map V.int) 0 = some (.int (heir t)) := atI_nat (j := 0) (by rw [List.getElem?_map, heir_keys t h]; rfl)
theorem key_l {l r : Tr} {x k : Int} {lo hi : Option Int} (ho : (Tr.node l x r).ord lo hi) (h : k ∈ (Tr.node l x r).keys) (c : k < x) : k ∈ l.keys := by
  simp only [Tr.keys, List.mem_append, List.mem_singleton] at h
  rcases h with (h | h) | h
  · exact h
  · lia
  · have := ord_r ho h; lia
theorem key_r {l r : Tr} {x k : Int} {lo hi : Option Int} (ho : (Tr.node l x r).ord lo hi) (h : k ∈ (Tr.node l x r).keys) (c : x < k) : k ∈ r.keys := by
  simp only [Tr.keys, List.mem_append, List.mem_singleton] at h
  rcases h with (h | h) | h
  · have := ord_l ho h; lia
  · lia
  · exact h
theorem at_ne (k : Int) : ∀ (t : Tr) (lo hi : Option Int), t.ord lo hi → k ∈ t.keys → at_ k t ≠ .nil
  | .nil, _, _, _, h => by simp [Tr.keys] at h
  | .node l x r, lo, hi, ho, h => by
    rw [at_]
    by_cases e : x = k
    · rw [if_pos e]; exact fun z => nomatch z
    · rw [if_neg e]
      by_cases c : k < x
      · rw [if_pos c]; exact at_ne k l _ _ ho.2.2.1 (key_l ho h c)
      · rw [if_neg c]; exact at_ne k r _ _ ho.2.2.2 (key_r ho h (by lia))
theorem at_mem {k : Int} : ∀ {t : Tr}, at_ k t ≠ .nil → k ∈ t.keys
  | .nil, h => absurd rfl h
  | .node l x r, h => by
    rw [at_] at h
    by_cases e : x = k
    · subst e; simp [Tr.keys]
    · rw [if_neg e] at h
      split at h
      · have := at_mem (t := l) h; simp [Tr.keys, this]
      · have := at_mem (t := r) h; simp [Tr.keys, this]
theorem ne_tr {H : Hp} {t : Tr} {v u : V} {Q : VK} (hv : Rep H v t.d) (hu : Rep H u t.d) (hd : t.ht ≤ 140) (h : Q (.bl false) H) : rNeG 150 v u H Q := by
  have hdp : t.d.dep ≤ 140 := Nat.le_trans (Tr.dep_d t) hd
  cases t with
  | nil =>
    cases rep_nil hv
    cases rep_nil hu
    refine ⟨.non, .non, .non, .non, rfl, rfl, Nat.zero_le _, ?_⟩
    rw [D.eqv_refl]; exact h
  | node l k r =>
    obtain ⟨a, _, _, rfl, _⟩ := rep_node hv
    obtain ⟨b, _, _, rfl, _⟩ := rep_node hu
    exact ne_same hv hu (pure_tr _) hdp h
inductive Spl : Tr → Tr → Prop
  | l (u : Tr) (x : Int) : Spl (.node u x .nil) u
  | r (u : Tr) (x : Int) : Spl (.node .nil x u) u
  | left {l l' : Tr} (r : Tr) (x y : Int) : Spl l l' → Spl (.node l x r) (.node l' y r)
  | right {r r' : Tr} (l : Tr) (x y : Int) : Spl r r' → Spl (.node l x r) (.node l y r')
theorem spl_ins (k : Int) : ∀ t : Tr, Spl (t.ins k) t
  | .nil => .l .nil k
  | .node l x r => by
    rw [Tr.ins]
    split
    · exact .left r x x (spl_ins k l)
    · exact .right l x x (spl_ins k r)
theorem spl_del : ∀ (t : Tr) (k : Int) (lo hi : Option Int), t.ord lo hi → k ∈ t.keys → Spl t (del t k)
  | .nil, k, _, _, _, h => by simp [Tr.keys] at h
  | .node l x r, k, lo, hi, ho, h => by
    simp only [Tr.keys, List.mem_append, List.mem_singleton] at h
    rw [del]
    by_cases c : k < x
    · rw [if_pos c]
      refine .left r x x (spl_del l k _ _ ho.2.2.1 ?_)
      rcases h with (h | h) | h
      · exact h
      · lia
      · have := ord_r ho h; lia
    · rw [if_neg c]
      by_cases d : x < k
      · rw [if_pos d]
        refine .right l x x (spl_del r k _ _ ho.2.2.2 ?_)
        rcases h with (h | h) | h
        · have := ord_l ho h; lia
        · lia
        · exact h
      · rw [if_neg d]
        by_cases e : l = .nil
        · rw [if_pos e, e]; exact .r r x
        · rw [if_neg e]
          by_cases f : r = .nil
          · rw [if_pos f, f]; exact .l l x
          · rw [if_neg f]
            exact .right l x _ (spl_del r (heir r) _ _ ho.2.2.2 (heir_mem f))
end K41C
namespace K41C
open PySem L2 L3 K41
noncomputable def spSide : Sp := fun vs H Q _ => ∃ (a : Addr) (vl vr : V) (x k : Int), vs = [.ref a, .int k] ∧ H a = some (.tup [vl, .int x, vr]) ∧ Q (if k < x then vl else vr) H
noncomputable def spAt : Sp := fun vs H Q _ => ∃ (v : V) (t : Tr) (k : Int), vs = [v, .int k] ∧ Rep H v t.d ∧ ∀ v', Rep H v' (at_ k t).d → Q v' H
noncomputable def spDel (n : Nat) : Sp := fun vs H Q _ => ∃ (v : V) (k : Int) (t : Tr) (lo hi : Option Int), vs = [v, .int k] ∧ Rep H v (Tr.d t) ∧ t.ht < n ∧ t.size ≤ 1000 ∧ t.ord lo hi ∧ k ∈ t.keys ∧ ∀ (r : V) (H' : Hp), Same H H' → Rep H' r (del t k).d → Q r H'
noncomputable def spTaken (CN : Addr) : Sp := fun vs H Q E => ∃ (v : V) (k : Int) (t : Tr), vs = [v, .int k] ∧ Rep H v (Tr.d t) ∧ t.ht < 80 ∧ t.size ≤ 1000 ∧ t.ord none none ∧
  ((k ∈ t.keys ∧ ∀ (r : V) (H' : Hp), Same H H' → Rep H' r (del t k).d → Q r H') ∨ (k ∉ t.keys ∧ E (.ref CN) none H))
noncomputable def spPut (n : Nat) : Sp := fun vs H Q _ => ∃ (v : V) (k : Int) (t : Tr), vs = [v, .int k] ∧ Rep H v (Tr.d t) ∧ t.ht < n ∧ ∀ (r : V) (H' : Hp), Same H H' → Rep H' r (t.ins k).d → Q r H'
noncomputable def spPutE (cH cF : Addr) : Sp := fun vs H Q E => ∃ (v : V) (k : Int) (t : Tr), vs = [v, .int k] ∧ Rep H v (Tr.d t) ∧ t.ht < 80 ∧ t.size ≤ 1000 ∧ t.ord none none ∧ (k ∈ t.keys → E (.ref cH) none H) ∧
  (k ∉ t.keys → 60 ≤ t.size → ∀ H', Same H H' → E (.ref cF) none H') ∧ (k ∉ t.keys → t.size < 60 → ∀ (r : V) (H' : Hp), Same H H' → Rep H' r (t.ins k).d → Q r H')
section
variable {P : Program} {w : World} {K : PySem.W.Frag} {mg : Str → Option Value} {base : Heap}
theorem ok_side {f : Addr} (F : Fd K mg "side_towards" s_side_towards f) (T : Tx K mg) : Cal P w K mg base CX0 1 "side_towards" spSide := by
  refine F.cal sc_side_towards (fun _ _ _ _ _ _ us hl => L3.bind2 (fun _ _ => rfl) us hl) (fun vs H Q E h => ?_) (fun cdv A outer s H vs Q E hr h => ?_)
  · obtain ⟨a, vl, vr, x, k, rfl, _⟩ := h; rfl
  · obtain ⟨a, vl, vr, x, k, rfl, ea, q⟩ := h
    refine ⟨_, (bone (sret (qif (tcmp rLt (qv 1) (qix (xIx K) (qv 0) qint (fun _ _ => rfl)) (nomark _)) (qix (xIx K) (qv 0) qint (fun _ _ => rfl)) (qix (xIx K) (qv 0) qint (fun _ _ => rfl))))), ?_⟩
    refine ⟨_, rfl, _, rfl, a, _, 1, _, rfl, rfl, .inr (SqT.of ea), atI_nat (j := 1) rfl, _, _, rfl, rfl, _, rfl, ?_⟩
    refine ite2 (fun h => ?_) (fun h => ?_)
    · have h : k < x := of_decide_eq_true h
      rw [if_pos h] at q
      exact ⟨_, rfl, a, _, 0, _, rfl, rfl, .inr (SqT.of ea), atI_nat (j := 0) rfl, q⟩
    · have h : ¬ k < x := fun z => h (decide_eq_true z)
      rw [if_neg h] at q
      exact ⟨_, rfl, a, _, 2, _, rfl, rfl, .inr (SqT.of ea), atI_nat (j := 2) rfl, q⟩
theorem ok_at {f : Addr} (F : Fd K mg "knot_at" s_knot_at f) (T : Tx K mg) (C_side_towards : Cal P w K mg base CX0 1 "side_towards" spSide) : Cal P w K mg base CX0 2 "knot_at" spAt := by
  refine F.cal sc_knot_at (fun _ _ _ _ _ _ us hl => L3.bind2 (fun _ _ => rfl) us hl) (fun vs H Q E h => ?_) (fun cdv A outer s H vs Q E hr h => ?_)
  · obtain ⟨v, t, k, rfl, _⟩ := h; rfl
  · obtain ⟨v, t, k, rfl, hv, q⟩ := h
    refine ⟨_, (bcons (swhile PassesOwn.never (QW.tst (wand (tcmp rIsNot (qv 0) qnon (nomark _)) (wand1 (tcmp (rNeq hr) (qix (xIx K) (qv 0) qint (fun _ _ => rfl)) (qv 1) (nomark _)))))
        (bone (sset (i := 0) sc_knot_at.nd rfl (by first | exact Or.inl rfl | exact Or.inr rfl) (qF C_side_towards (hr.mono (by lia)) pass0 rfl (qcons (qv 0) (qcons (qv 1) qnil))))))
      (bone (sret (qv 0)))), ?_⟩
    refine ⟨fun m σ H' => ∃ (v' : V) (t' : Tr), σ = [some v', some (.int k)] ∧ H' = H ∧ Rep H v' t'.d ∧ at_ k t' = at_ k t ∧ m = t'.ht, ⟨_, v, t, rfl, rfl, hv, rfl, rfl⟩, ?_⟩
    rintro m σ H1 ⟨v', t', rfl, rfl, hv', hat, rfl⟩
    cases t' with
    | nil =>
      cases rep_nil hv'
      refine ⟨_, rfl, rfl, _, rfl, ?_⟩
      refine ⟨_, rfl, q .non ?_⟩
      rw [← hat]; exact .non
    | node l x r =>
      obtain ⟨a, vl, vr, rfl, ea, hl, hr'⟩ := rep_node hv'
      refine ⟨_, rfl, rfl, _, rfl, ?_⟩
      refine iteT ?_
      refine ⟨_, rfl, a, _, 1, _, rfl, rfl, .inr (SqT.of ea), atI_nat (j := 1) rfl, _, rfl, _, rfl, ?_⟩
      by_cases hx : x = k
      · rw [decide_eq_true hx]
        refine iteF ?_
        refine ⟨_, rfl, q _ ?_⟩
        rw [← hat, at_, if_pos hx]; exact hv'
      · rw [decide_eq_false hx]
        refine iteT ?_
        refine ⟨fun σ' H' => ∃ m', m' < (Tr.node l x r).ht ∧ ∃ (v' : V) (t' : Tr), σ' = [some v', some (.int k)] ∧ H' = H1 ∧ Rep H1 v' t'.d ∧ at_ k t' = at_ k t ∧ m' = t'.ht, fun _ _ z => z, ?_⟩
        refine ⟨_, rfl, _, rfl, a, vl, vr, x, k, rfl, ea, ?_⟩
        have hv2 : Rep H1 (if k < x then vl else vr) (if k < x then l else r).d := by
          by_cases hk : k < x
          · rw [if_pos hk, if_pos hk]; exact hl
          · rw [if_neg hk, if_neg hk]; exact hr'
        refine ⟨_, ?_, _, _, rfl, rfl, hv2, ?_, rfl⟩
        · rw [Tr.ht]; split <;> lia
        · rw [← hat]
          conv => rhs; rw [at_, if_neg hx]
          split <;> rfl
theorem ok_wo {f : Addr} (F : Fd K mg "without_key" s_without_key f) (T : Tx K mg) (C_keys_of : Cal P w K mg base CX0 82 "keys_of" (spKof 82)) : ∀ n, n ≤ 80 → Cal P w K mg base CX0 (n + 82) "without_key" (spDel n) := by
  intro n
  induction n with
  | zero => exact fun _ => (F.none (ps := ["tree", "key"]) (fun _ _ _ _ _ _ us hl => L3.bind2 (fun _ _ => rfl) us hl) fun vs H Q E hh => by obtain ⟨v, k, t, lo, hi, _, _, h2, _⟩ := hh; lia).mono (by decide)
  | succ n ih =>
    intro hn
    have C_without_key := ih (by lia)
    refine F.cal sc_without_key (fun _ _ _ _ _ _ us hl => L3.bind2 (fun _ _ => rfl) us hl) (fun vs H Q E h => ?_) (fun cdv A outer s H vs Q E hr h => ?_)
    · obtain ⟨v, k, t, lo, hi, rfl, _⟩ := h; rfl
    · obtain ⟨v, k, t, lo, hi, rfl, hv, ht, hz, ho, hk, q⟩ := h
      refine ⟨_, (bcons (sif (tcmp rLt (qv 1) (qix (xIx K) (qv 0) qint (fun _ _ => rfl)) (nomark _)) (bone (sret (qtup (qcons (qF C_without_key (hr.mono (by lia)) pass0 rfl (qcons (qix (xIx K) (qv 0) qint (fun _ _ => rfl)) (qcons (qv 1) qnil))) (qcons (qix (xIx K) (qv 0) qint (fun _ _ => rfl)) (qcons (qix (xIx K) (qv 0) qint (fun _ _ => rfl)) qnil)))))) bnil)
      (bcons (sif (tcmp rGt (qv 1) (qix (xIx K) (qv 0) qint (fun _ _ => rfl)) (nomark _)) (bone (sret (qtup (qcons (qix (xIx K) (qv 0) qint (fun _ _ => rfl)) (qcons (qix (xIx K) (qv 0) qint (fun _ _ => rfl)) (qcons (qF C_without_key (hr.mono (by lia)) pass0 rfl (qcons (qix (xIx K) (qv 0) qint (fun _ _ => rfl)) (qcons (qv 1) qnil))) qnil)))))) bnil)
      (bcons (sif (tcmp rIs (qix (xIx K) (qv 0) qint (fun _ _ => rfl)) qnon (nomark _)) (bone (sret (qix (xIx K) (qv 0) qint (fun _ _ => rfl)))) bnil)
      (bcons (sif (tcmp rIs (qix (xIx K) (qv 0) qint (fun _ _ => rfl)) qnon (nomark _)) (bone (sret (qix (xIx K) (qv 0) qint (fun _ _ => rfl)))) bnil)
      (bcons (sset (i := 2) sc_without_key.nd rfl (by first | exact Or.inl rfl | exact Or.inr rfl) (qix (xIx K) (qF C_keys_of (hr.mono (by lia)) pass0 rfl (qcons (qix (xIx K) (qv 0) qint (fun _ _ => rfl)) qnil)) qint (fun _ _ => rfl)))
      (bone (sret (qtup (qcons (qix (xIx K) (qv 0) qint (fun _ _ => rfl)) (qcons (qv 2) (qcons (qF C_without_key (hr.mono (by lia)) pass0 rfl (qcons (qix (xIx K) (qv 0) qint (fun _ _ => rfl)) (qcons (qv 2) qnil))) qnil))))))))))), ?_⟩
      cases t with
      | nil => simp [Tr.keys] at hk
      | node l x r =>
        obtain ⟨a, vl, vr, rfl, ea, hl, hr'⟩ := rep_node hv
        simp only [Tr.ht] at ht
        simp only [Tr.size] at hz
        refine ⟨_, rfl, _, rfl, a, _, 1, _, rfl, rfl, .inr (SqT.of ea), atI_nat (j := 1) rfl, _, _, rfl, rfl, _, rfl, ?_⟩
        refine ite2 (fun hlt => ?_) (fun hlt => ?_)
        · have hlt : k < x := of_decide_eq_true hlt
          refine ⟨_, rfl, a, _, 0, _, rfl, rfl, .inr (SqT.of ea), atI_nat (j := 0) rfl, _, rfl, vl, k, l, _, _, rfl, hl, by lia, by lia, ho.2.2.1, key_l ho hk hlt, fun r1 H1 s1 g1 => ?_⟩
          have ea1 := s1 _ _ ea
          refine ⟨_, rfl, a, _, 1, _, rfl, rfl, .inr (SqT.of ea1), atI_nat (j := 1) rfl, _, rfl, a, _, 2, _, rfl, rfl, .inr (SqT.of ea1), atI_nat (j := 2) rfl, (show 3 ≤ sizeLine by decide), fun a2 H2 n2 s2 e2 _ => ?_⟩
          refine q _ _ (s1.trans s2) ?_
          rw [del, if_pos hlt]
          exact rep_mk e2 (g1.mono s2) (hr'.mono (s1.trans s2))
        · have hlt : ¬ k < x := fun z => hlt (decide_eq_true z)
          refine ⟨_, rfl, _, rfl, a, _, 1, _, rfl, rfl, .inr (SqT.of ea), atI_nat (j := 1) rfl, _, _, rfl, rfl, _, rfl, ?_⟩
          refine ite2 (fun hgt => ?_) (fun hgt => ?_)
          · have hgt : x < k := of_decide_eq_true hgt
            refine ⟨_, rfl, a, _, 0, _, rfl, rfl, .inr (SqT.of ea), atI_nat (j := 0) rfl, _, rfl, a, _, 1, _, rfl, rfl, .inr (SqT.of ea), atI_nat (j := 1) rfl, _, rfl, a, _, 2, _, rfl, rfl, .inr (SqT.of ea), atI_nat (j := 2) rfl, _, rfl, vr, k, r, _, _, rfl, hr', by lia, by lia, ho.2.2.2, key_r ho hk hgt, fun r1 H1 s1 g1 => ?_⟩
            refine ⟨(show 3 ≤ sizeLine by decide), fun a2 H2 n2 s2 e2 _ => ?_⟩
            refine q _ _ (s1.trans s2) ?_
            rw [del, if_neg hlt, if_pos hgt]
            exact rep_mk e2 (hl.mono (s1.trans s2)) (g1.mono s2)
          · have hgt : ¬ x < k := fun z => hgt (decide_eq_true z)
            rw [del, if_neg hlt, if_neg hgt] at q
            refine ⟨_, rfl, a, _, 0, _, rfl, rfl, .inr (SqT.of ea), atI_nat (j := 0) rfl, rfl, _, rfl, ?_⟩
            cases l with
            | nil =>
              cases rep_nil hl
              rw [if_pos rfl] at q
              exact ⟨_, rfl, a, _, 2, _, rfl, rfl, .inr (SqT.of ea), atI_nat (j := 2) rfl, q _ _ (Same.refl _) hr'⟩
            | node l1 x1 r1 =>
              obtain ⟨a1, vl1, vr1, rfl, ea1, _, _⟩ := rep_node hl
              rw [if_neg (fun h => nomatch h)] at q
              refine iteF ?_
              refine ⟨_, rfl, a, _, 2, _, rfl, rfl, .inr (SqT.of ea), atI_nat (j := 2) rfl, rfl, _, rfl, ?_⟩
              cases r with
              | nil =>
                cases rep_nil hr'
                rw [if_pos rfl] at q
                exact ⟨_, rfl, a, _, 0, _, rfl, rfl, .inr (SqT.of ea), atI_nat (j := 0) rfl, q _ _ (Same.refl _) hl⟩
              | node l2 x2 r2 =>
                obtain ⟨a2, vl2, vr2, rfl, ea2, _, _⟩ := rep_node hr'
                rw [if_neg (fun h => nomatch h)] at q
                refine iteF ?_
                have hne : Tr.node l2 x2 r2 ≠ .nil := fun h => nomatch h
                refine ⟨_, rfl, a, _, 2, _, rfl, rfl, .inr (SqT.of ea), atI_nat (j := 2) rfl, _, _, rfl, hr', by lia, by lia, fun b3 H3 n3 s3 e3 => ?_⟩
                refine ⟨b3, _, _, _, rfl, rfl, .inl (SqL.of e3), heir_atI hne, ?_⟩
                have ea3 := s3 _ _ ea
                refine ⟨_, rfl, a, _, 0, _, rfl, rfl, .inr (SqT.of ea3), atI_nat (j := 0) rfl, _, rfl, _, rfl, a, _, 2, _, rfl, rfl, .inr (SqT.of ea3), atI_nat (j := 2) rfl, _, rfl, _, _, _, _, _, rfl, hr'.mono s3, by lia, by lia, ho.2.2.2, heir_mem hne, fun r4 H4 s4 g4 => ?_⟩
                refine ⟨(show 3 ≤ sizeLine by decide), fun a5 H5 n5 s5 e5 _ => ?_⟩
                exact q _ _ ((s3.trans s4).trans s5) (rep_mk e5 (hl.mono ((s3.trans s4).trans s5)) (g4.mono s5))
theorem ok_taken {f CN : Addr} (F : Fd K mg "taken" s_taken f) (T : Tx K mg) (R_NotThere : ErrK K mg "NotThere" CN) (C_knot_at : Cal P w K mg base CX0 2 "knot_at" spAt) (C_without_key : Cal P w K mg base CX0 162 "without_key" (spDel 80)) : Cal P w K mg base (CXE P w) 164 "taken" (spTaken CN) := by
  refine F.calE sc_taken (fun _ _ _ _ _ _ us hl => L3.bind2 (fun _ _ => rfl) us hl) (fun vs H Q E h => ?_) (fun cdv A outer s H vs Q E hr h => ?_)
  · obtain ⟨v, k, t, rfl, _⟩ := h; rfl
  · obtain ⟨v, k, t, rfl, hv, ht, hz, ho, h⟩ := h
    refine ⟨_, (bcons (sif (tcmp rIs (qF C_knot_at (hr.mono (by lia)) pass0 rfl (qcons (qv 0) (qcons (qv 1) qnil))) qnon (nomark _)) (bone (sraise R_NotThere rfl (qcons qstr qnil))) bnil)
      (bone (snox (sret (qF C_without_key (hr.mono (by lia)) pass0 rfl (qcons (qv 0) (qcons (qv 1) qnil))))))), ?_⟩
    refine ⟨_, rfl, _, rfl, v, t, k, rfl, hv, fun v' g' => ?_⟩
    rcases h with ⟨hk, q⟩ | ⟨hk, q⟩
    · have hne := at_ne k t _ _ ho hk
      cases ht' : at_ k t with
      | nil => exact absurd ht' hne
      | node l x r =>
        rw [ht'] at g'
        obtain ⟨a, vl, vr, rfl, ea, _, _⟩ := rep_node g'
        refine ⟨rfl, _, rfl, ?_⟩
        refine iteF ?_
        exact ⟨_, rfl, _, rfl, v, k, t, _, _, rfl, hv, ht, hz, ho, hk, q⟩
    · have hnil : at_ k t = .nil := Classical.byContradiction fun z => hk (at_mem z)
      rw [hnil] at g'
      cases rep_nil g'
      refine ⟨rfl, _, rfl, ?_⟩
      refine iteT ?_
      exact ⟨(show 1 ≤ sizeLine by decide), q⟩
theorem ok_wkey {f : Addr} (F : Fd K mg "with_key" s_with_key f) (T : Tx K mg) : ∀ n, Cal P w K mg base CX0 n "with_key" (spPut n) := by
  intro n
  induction n with
  | zero => exact F.none (ps := ["tree", "key"]) (fun _ _ _ _ _ _ us hl => L3.bind2 (fun _ _ => rfl) us hl) fun vs H Q E hh => by obtain ⟨v, k, t, _, _, h2, _⟩ := hh; lia
  | succ n C_with_key =>
    refine F.cal sc_with_key (fun _ _ _ _ _ _ us hl => L3.bind2 (fun _ _ => rfl) us hl) (fun vs H Q E h => ?_) (fun cdv A outer s H vs Q E hr h => ?_)
    · obtain ⟨v, k, t, rfl, _⟩ := h; rfl
    · obtain ⟨v, k, t, rfl, hv, ht, q⟩ := h
      refine ⟨_, (bcons (sif (tcmp rIs (qv 0) qnon (nomark _)) (bone (sret (qtup (qcons qnon (qcons (qv 1) (qcons qnon qnil)))))) bnil)
      (bcons (sif (tcmp rLt (qv 1) (qix (xIx K) (qv 0) qint (fun _ _ => rfl)) (nomark _)) (bone (sret (qtup (qcons (qF C_with_key (hr.mono (by lia)) pass0 rfl (qcons (qix (xIx K) (qv 0) qint (fun _ _ => rfl)) (qcons (qv 1) qnil))) (qcons (qix (xIx K) (qv 0) qint (fun _ _ => rfl)) (qcons (qix (xIx K) (qv 0) qint (fun _ _ => rfl)) qnil)))))) bnil)
      (bone (sret (qtup (qcons (qix (xIx K) (qv 0) qint (fun _ _ => rfl)) (qcons (qix (xIx K) (qv 0) qint (fun _ _ => rfl)) (qcons (qF C_with_key (hr.mono (by lia)) pass0 rfl (qcons (qix (xIx K) (qv 0) qint (fun _ _ => rfl)) (qcons (qv 1) qnil))) qnil)))))))), ?_⟩
      cases t with
      | nil =>
        cases rep_nil hv
        refine ⟨_, rfl, rfl, _, rfl, ?_⟩
        exact ⟨_, rfl, (show 3 ≤ sizeLine by decide), fun a H1 n1 s1 e1 _ => q _ _ s1 (rep_mk e1 .non .non)⟩
      | node l x r =>
        obtain ⟨a, vl, vr, rfl, ea, hl, hr'⟩ := rep_node hv
        refine ⟨_, rfl, rfl, _, rfl, ?_⟩
        refine ⟨_, rfl, _, rfl, a, _, 1, _, rfl, rfl, .inr (SqT.of ea), atI_nat (j := 1) rfl, _, _, rfl, rfl, _, rfl, ?_⟩
        simp only [Tr.ht] at ht
        refine ite2 (fun hlt => ?_) (fun hlt => ?_)
        · have hlt : k < x := of_decide_eq_true hlt
          refine ⟨_, rfl, a, _, 0, _, rfl, rfl, .inr (SqT.of ea), atI_nat (j := 0) rfl, _, rfl, vl, k, l, rfl, hl, by lia, fun r1 H1 s1 g1 => ?_⟩
          have ea1 := s1 _ _ ea
          refine ⟨_, rfl, a, _, 1, _, rfl, rfl, .inr (SqT.of ea1), atI_nat (j := 1) rfl, _, rfl, a, _, 2, _, rfl, rfl, .inr (SqT.of ea1), atI_nat (j := 2) rfl, (show 3 ≤ sizeLine by decide), fun a2 H2 n2 s2 e2 _ => ?_⟩
          refine q _ _ (s1.trans s2) ?_
          rw [Tr.ins, if_pos hlt]
          exact rep_mk e2 (g1.mono s2) (hr'.mono (s1.trans s2))
        · have hlt : ¬ k < x := fun z => hlt (decide_eq_true z)
          refine ⟨_, rfl, a, _, 0, _, rfl, rfl, .inr (SqT.of ea), atI_nat (j := 0) rfl, _, rfl, a, _, 1, _, rfl, rfl, .inr (SqT.of ea), atI_nat (j := 1) rfl, _, rfl, a, _, 2, _, rfl, rfl, .inr (SqT.of ea), atI_nat (j := 2) rfl, _, rfl, vr, k, r, rfl, hr', by lia, fun r1 H1 s1 g1 => ?_⟩
          refine ⟨(show 3 ≤ sizeLine by decide), fun a2 H2 n2 s2 e2 _ => ?_⟩
          refine q _ _ (s1.trans s2) ?_
          rw [Tr.ins, if_neg hlt]
          exact rep_mk e2 (hl.mono (s1.trans s2)) (g1.mono s2)
theorem ok_putE {f cH cF : Addr} (F : Fd K mg "put" s_put f) (T : Tx K mg) (R_There : ErrK K mg "There" cH) (R_Full : ErrK K mg "Full" cF) (C_knot_at : Cal P w K mg base CX0 2 "knot_at" spAt) (C_keys_of : Cal P w K mg base CX0 82 "keys_of" (spKof 82)) (C_with_key : Cal P w K mg base CX0 80 "with_key" (spPut 80)) : Cal P w K mg base (CXE P w) 83 "put" (spPutE cH cF) := by
  refine F.calE sc_put (fun _ _ _ _ _ _ us hl => L3.bind2 (fun _ _ => rfl) us hl) (fun vs H Q E h => ?_) (fun cdv A outer s H vs Q E hr h => ?_)
  · obtain ⟨v, k, t, rfl, _⟩ := h; rfl
  · obtain ⟨v, k, t, rfl, hv, ht, hz, ho, h1, h2, h3⟩ := h
    have hl := Tr.keys_length t
    refine ⟨_, (bcons (sif (tcmp rIsNot (qF C_knot_at (hr.mono (by lia)) pass0 rfl (qcons (qv 0) (qcons (qv 1) qnil))) qnon (nomark _)) (bone (sraise R_There rfl (qcons qstr qnil))) bnil)
      (bcons (sif (tcmp rGe (qB (fLen K) rfl T.b_len bt_len (qcons (qF C_keys_of (hr.mono (by lia)) pass0 rfl (qcons (qv 0) qnil)) qnil)) (qglobI rfl T.g_MOST_KEYS) (nomark _)) (bone (sraise R_Full rfl (qcons qstr qnil))) bnil)
      (bone (snox (sret (qF C_with_key (hr.mono (by lia)) pass0 rfl (qcons (qv 0) (qcons (qv 1) qnil)))))))), ?_⟩
    refine ⟨_, rfl, _, rfl, v, t, k, rfl, hv, fun v' g' => ?_⟩
    by_cases hk : k ∈ t.keys
    · have hne := at_ne k t _ _ ho hk
      cases ht' : at_ k t with
      | nil => exact absurd ht' hne
      | node l x r =>
        rw [ht'] at g'
        obtain ⟨a, vl, vr, rfl, ea, _, _⟩ := rep_node g'
        refine ⟨rfl, _, rfl, ?_⟩
        refine iteT ?_
        exact ⟨(show 1 ≤ sizeLine by decide), h1 hk⟩
    · have hnil : at_ k t = .nil := Classical.byContradiction fun z => hk (at_mem z)
      rw [hnil] at g'
      cases rep_nil g'
      refine ⟨rfl, _, rfl, ?_⟩
      refine iteF ?_
      refine ⟨_, rfl, v, t, rfl, hv, by lia, by lia, fun r1 H1 n1 s1 e1 => ?_⟩
      refine ⟨r1, _, rfl, .inl (SqL.of e1), _, _, rfl, rfl, _, rfl, ?_⟩
      rw [List.length_map]
      by_cases hs : 60 ≤ t.size
      · rw [decide_eq_true (show (60 : Int) ≤ ((t.keys.length : Nat) : Int) by lia)]
        refine iteT ?_
        exact ⟨(show 1 ≤ sizeLine by decide), h2 hk hs H1 s1⟩
      · rw [decide_eq_false (show ¬ (60 : Int) ≤ ((t.keys.length : Nat) : Int) by lia)]
        refine iteF ?_
        exact ⟨_, rfl, _, rfl, v, k, t, rfl, hv.mono s1, ht, fun r H' s' g => h3 hk (by lia) r H' (s1.trans s') g⟩
end
end K41C
namespace K41C
open PySem L2 L3 K41
noncomputable def nin (qs : List (Int × Int)) (p : Int × Int) : Bool := !decide (p ∈ qs)
theorem pair_eqv (a b : Int × Int) : (pairD a).eqv (pairD b) = decide (a = b) := by
  by_cases h : a = b
  · rw [h, D.eqv_refl]; simp
  · rw [decide_eq_false h]
    refine eqv_ne rfl rfl fun e => h ?_
    unfold pairD at e
    obtain ⟨a1, a2⟩ := a
    obtain ⟨b1, b2⟩ := b
    simp at e
    rw [e.1, e.2]
theorem pairs_any (qs : List (Int × Int)) (p : Int × Int) : ((qs.map pairD).any fun e => e.eqv (pairD p)) = decide (p ∈ qs) := by
  induction qs with
  | nil => rfl
  | cons q qs ih =>
    rw [List.map_cons, List.any_cons, ih, pair_eqv]
    by_cases h : q = p
    · subst h; simp
    · have : ¬ p = q := fun z => h z.symm
      simp [h, this]
noncomputable def spCG : Sp := fun vs H Q _ => ∃ (v1 v2 : V) (t1 t2 : Tr) (room : Int), vs = [v1, v2, .int room] ∧ Rep H v1 t1.d ∧ Rep H v2 t2.d ∧ t1.ht < 80 ∧ t2.ht < 80 ∧ t1.size ≤ 60 ∧ t2.size ≤ 60 ∧ t1.keys.Nodup ∧ t2.keys.Nodup ∧
  ∀ r c g H' wc wg q1 q2, H r = none → H c = none → H g = none → c ≠ g → Same H H' → H' r = some (.tup [.ref c, .ref g]) → H' c = some (.lst wc) → Reps H' wc ((q2.filter (nin q1)).map pairD) → H' g = some (.lst wg) → Reps H' wg ((q1.filter (nin q2)).map pairD) →
    q1.Perm (tS room t1) → Rises q1 → q2.Perm (tS room t2) → Rises q2 → Q (.ref r) H'
section
variable {P : Program} {w : World} {K : PySem.W.Frag} {mg : Str → Option Value} {base : Heap}
theorem ok_ties {f : Addr} (F : Fd K mg "ties" s_ties f) (T : Tx K mg) (C_tied_pairs : Cal P w K mg base CX0 82 "tied_pairs" spTied) (C_marks_by_key : Cal P w K mg base CX0 82 "marks_by_key" spByKey) : Cal P w K mg base CX0 84 "ties" (spTies 84) := by
  refine F.cal sc_ties (fun _ _ _ _ _ _ us hl => L3.bind2 (fun _ _ => rfl) us hl) (fun vs H Q E h => ?_) (fun cdv A outer s H vs Q E hr h => ?_)
  · obtain ⟨v, t, room, rfl, _⟩ := h; rfl
  · obtain ⟨v, t, room, rfl, hv, ht, hz, hnd, q⟩ := h
    refine ⟨_, (bone (sret (qB (fSortT K) rfl T.b_sorted bt_sorted (qcons (qF C_tied_pairs (hr.mono (by lia)) pass0 rfl (qcons (qv 0) (qcons (qF C_marks_by_key (hr.mono (by lia)) pass0 rfl (qcons (qv 0) (qcons (qv 1) qnil))) qnil))) qnil)))), ?_⟩
    refine ⟨_, rfl, _, rfl, _, rfl, v, t, room, rfl, hv, ht, by lia, hnd, fun d H1 kvs n1 s1 e1 D1 => ?_⟩
    refine ⟨v, t, _, d, kvs, rfl, hv.mono s1, ht, by lia, e1, D1, known_pt room hnd, fun r H2 ws n2 s2 e2 g2 => ?_⟩
    obtain ⟨zs, h1, h2, h3⟩ := zip_pairs g2
    have hlen := tie_len (t.pt room) t
    have hzl : zs.length = (tP (t.pt room) t.wk).length := by rw [← h2, List.length_map]
    refine ⟨r, zs, rfl, SqL.of (by rw [← h1]; exact e2), by lia, fun z hz => ⟨SqT.of (h3 z hz).2, by rw [(h3 z hz).1]; exact fun h => nomatch h⟩, fun q' H3 ys n3 s3 e3 _ p3 o3 => ?_⟩
    have hy : ∀ z ∈ ys, z.2 = prs (unp z) ∧ H3 z.1 = some (.tup (z.2.map V.int)) := fun z hz => by
      obtain ⟨a1, a2⟩ := h3 z (p3.mem_iff.mp hz)
      exact ⟨a1, s3 _ _ a2⟩
    refine q q' H3 _ (ys.map unp) ((s1.trans s2).free n3) ((s1.trans s2).trans s3) e3 (pairs_zip hy) (by rw [← h2]; exact p3.map _) ?_
    refine List.pairwise_map.mpr (List.Pairwise.imp_of_mem (fun {a b} ha hb hab => ?_) o3)
    rw [← (hy a ha).1, ← (hy b hb).1]; exact hab
theorem ok_cg {f : Addr} (F : Fd K mg "come_and_gone" s_come_and_gone f) (T : Tx K mg) (C_ties : Cal P w K mg base CX0 84 "ties" (spTies 84)) : Cal P w K mg base CX0 86 "come_and_gone" spCG := by
  refine F.cal sc_come_and_gone (fun _ _ _ _ _ _ us hl => L3.bind3 (fun _ _ _ => rfl) us hl) (fun vs H Q E h => ?_) (fun cdv A outer s H vs Q E hr h => ?_)
  · obtain ⟨v1, v2, t1, t2, room, rfl, _⟩ := h; rfl
  · obtain ⟨v1, v2, t1, t2, room, rfl, g1, g2, h1, h2, z1, z2, d1, d2, q⟩ := h
    refine ⟨_, (bcons (sset (i := 3) sc_come_and_gone.nd rfl (by first | exact Or.inl rfl | exact Or.inr rfl) (qF C_ties (hr.mono (by lia)) pass0 rfl (qcons (qv 0) (qcons (qv 2) qnil))))
      (bcons (sset (i := 4) sc_come_and_gone.nd rfl (by first | exact Or.inl rfl | exact Or.inr rfl) (qF C_ties (hr.mono (by lia)) pass0 rfl (qcons (qv 1) (qcons (qv 2) qnil))))
      (bcons (ssetC (i := 5) (sc := defScope s_come_and_gone) (NX := ["before", "after", "room", "ties_before", "ties_after", "come", "gone"]) ["tie", "ties_before"] [none, some 3] rfl sc_come_and_gone.nd rfl rfl (iseq K (qv 4)) (fun _ _ _ => (gname (i := 0) (show (["tie", "ties_before"] : List Str).Nodup by decide +kernel) rfl (by first | exact Or.inl rfl | exact Or.inr rfl))) (fun _ _ _ => (csone (tcmp (rNotInnD K hr) (qv 0) (qv 1) (by with_unfolding_all rfl)))) (fun _ _ _ => (qv 0)) rfl rfl (by decide +kernel) rfl)
      (bcons (ssetC (i := 6) (sc := defScope s_come_and_gone) (NX := ["before", "after", "room", "ties_before", "ties_after", "come", "gone"]) ["tie", "ties_after"] [none, some 4] rfl sc_come_and_gone.nd rfl rfl (iseq K (qv 3)) (fun _ _ _ => (gname (i := 0) (show (["tie", "ties_after"] : List Str).Nodup by decide +kernel) rfl (by first | exact Or.inl rfl | exact Or.inr rfl))) (fun _ _ _ => (csone (tcmp (rNotInnD K hr) (qv 0) (qv 1) (by with_unfolding_all rfl)))) (fun _ _ _ => (qv 0)) rfl rfl (by decide +kernel) rfl)
      (bone (sret (qtup (qcons (qv 5) (qcons (qv 6) qnil))))))))), ?_⟩
    refine ⟨_, rfl, _, rfl, v1, t1, room, rfl, g1, h1, z1, d1, fun b1 H1 w1 q1 n1 s1 e1 R1 m1 o1 => ?_⟩
    refine ⟨_, rfl, _, rfl, v2, t2, room, rfl, g2.mono s1, h2, z2, d2, fun b2 H2 w2 q2 n2 s2 e2 R2 m2 o2 => ?_⟩
    rw [tP_tS room (Tr.pt_nodup room d1) t1 fun e he => he] at m1
    rw [tP_tS room (Tr.pt_nodup room d2) t2 fun e he => he] at m2
    have e12 := s2 _ _ e1
    have R12 := R1.mono s2
    have l1 : q1.length ≤ 60 := by
      have h := m1.length_eq
      have h' := tie_len (t1.pt room) t1
      rw [tP_tS room (Tr.pt_nodup room d1) t1 fun e he => he] at h'
      lia
    have l2 : q2.length ≤ 60 := by
      have h := m2.length_eq
      have h' := tie_len (t2.pt room) t2
      rw [tP_tS room (Tr.pt_nodup room d2) t2 fun e he => he] at h'
      lia
    have lw1 : w1.length = q1.length := by have := R1.length; rwa [List.length_map] at this
    have lw2 : w2.length = q2.length := by have := R2.length; rwa [List.length_map] at this
    refine ⟨_, rfl, b2, rfl, .inl ⟨⟨_, SqL.of e2⟩, fun c3 a3 => ?_⟩⟩
    refine comp_list (xs := w2) (fun i ys σ H' => ∃ z, σ = [z, some (.ref b1)] ∧ Same H2 H' ∧ H' c3 = some (.lst ys) ∧ Reps H2 ys (((q2.take i).filter (nin q1)).map pairD)) ⟨none, rfl, same_new a3, upd_same, .nil⟩ (fun i ys σ H' hh => by obtain ⟨_, _, s', _⟩ := hh; exact SqL.of (s' _ _ e2)) ?_ ?_
    · rintro i ys y σ G hy hi ⟨z, rfl, sG, eG, gG⟩
      obtain ⟨p, hp, gp⟩ := reps_map R2 hy
      have hlG := gG.length
      rw [List.length_map] at hlG
      have hfl := List.length_filter_le (nin q1) (q2.take i)
      rw [List.length_take] at hfl
      have htk : (q2.take (i + 1)).filter (nin q1) = (q2.take i).filter (nin q1) ++ (if nin q1 p = true then [p] else []) := by
        rw [List.take_add_one, hp, List.filter_append]
        congr 1
        by_cases h : nin q1 p = true <;> simp [h]
      refine ⟨_, rfl, _, rfl, b1, w1, pairD p, q1.map pairD, rfl, SqL.of (sG _ _ e12), gp.mono sG, R12.mono sG, rfl, pures_map pure_pair _, Nat.le_trans (deps_map (n := 1) (fun _ => Nat.le_refl _) _) (by decide), _, rfl, ?_⟩
      rw [pairs_any]
      by_cases h : nin q1 p = true
      · rw [if_pos h] at htk
        have h' : (!decide (p ∈ q1)) = true := h
        rw [if_pos rfl, h']
        refine iteT ?_
        refine ⟨_, rfl, ?_⟩
        refine cpost eG (sizeBig (by lia)) hi ?_
        refine ⟨_, rfl, same_upd sG a3, upd_same, ?_⟩
        rw [htk, List.map_append]
        exact gG.append (.cons gp .nil)
      · rw [if_neg h, List.append_nil] at htk
        have h' : (!decide (p ∈ q1)) = false := by simpa [nin] using h
        rw [if_pos rfl, h']
        refine iteF ?_
        refine cskip hi (ys := ys) ?_
        exact ⟨_, rfl, sG, eG, by rw [htk]; exact gG⟩
    rintro wc σ H3 ⟨z, rfl, s3, e3, R3⟩
    rw [lw2, List.take_length] at R3
    have e13 := s3 _ _ e12
    have R13 := R12.mono s3
    have e23 := s3 _ _ e2
    have R23 := R2.mono s3
    have R33 := R3.mono s3
    refine ⟨_, rfl, b1, rfl, .inl ⟨⟨_, SqL.of e13⟩, fun g4 a4 => ?_⟩⟩
    refine comp_list (xs := w1) (fun i ys σ H' => ∃ z, σ = [z, some (.ref b2)] ∧ Same H3 H' ∧ H' g4 = some (.lst ys) ∧ Reps H3 ys (((q1.take i).filter (nin q2)).map pairD)) ⟨none, rfl, same_new a4, upd_same, .nil⟩ (fun i ys σ H' hh => by obtain ⟨_, _, s', _⟩ := hh; exact SqL.of (s' _ _ e13)) ?_ ?_
    · rintro i ys y σ G hy hi ⟨z, rfl, sG, eG, gG⟩
      obtain ⟨p, hp, gp⟩ := reps_map R13 hy
      have hlG := gG.length
      rw [List.length_map] at hlG
      have hfl := List.length_filter_le (nin q2) (q1.take i)
      rw [List.length_take] at hfl
      have htk : (q1.take (i + 1)).filter (nin q2) = (q1.take i).filter (nin q2) ++ (if nin q2 p = true then [p] else []) := by
        rw [List.take_add_one, hp, List.filter_append]
        congr 1
        by_cases h : nin q2 p = true <;> simp [h]
      refine ⟨_, rfl, _, rfl, b2, w2, pairD p, q2.map pairD, rfl, SqL.of (sG _ _ e23), gp.mono sG, R23.mono sG, rfl, pures_map pure_pair _, Nat.le_trans (deps_map (n := 1) (fun _ => Nat.le_refl _) _) (by decide), _, rfl, ?_⟩
      rw [pairs_any]
      by_cases h : nin q2 p = true
      · rw [if_pos h] at htk
        have h' : (!decide (p ∈ q2)) = true := h
        rw [if_pos rfl, h']
        refine iteT ?_
        refine ⟨_, rfl, ?_⟩
        refine cpost eG (sizeBig (by lia)) hi ?_
        refine ⟨_, rfl, same_upd sG a4, upd_same, ?_⟩
        rw [htk, List.map_append]
        exact gG.append (.cons gp .nil)
      · rw [if_neg h, List.append_nil] at htk
        have h' : (!decide (p ∈ q2)) = false := by simpa [nin] using h
        rw [if_pos rfl, h']
        refine iteF ?_
        refine cskip hi (ys := ys) ?_
        exact ⟨_, rfl, sG, eG, by rw [htk]; exact gG⟩
    rintro wg σ H4 ⟨z, rfl, s4, e4, R4⟩
    rw [lw1, List.take_length] at R4
    have R44 := R4.mono s4
    refine ⟨_, rfl, _, rfl, (show 2 ≤ sizeLine by decide), fun r5 H5 n5 s5 e5 _ => ?_⟩
    have s02 := s1.trans s2
    have s04 := s02.trans (s3.trans s4)
    exact q r5 c3 g4 H5 wc wg q1 q2 (s04.free n5) (s02.free a3) ((s02.trans s3).free a4) (fun z => by rw [z, a4] at e3; cases e3) (s04.trans s5) e5 ((s4.trans s5) _ _ e3) (R33.mono (s4.trans s5)) (s5 _ _ e4) (R44.mono s5) m1 o1 m2 o2
end
end K41C
namespace K41C
open PySem L2 L3 K41
theorem top_is (room : Int) {t : Tr} (hnd : t.keys.Nodup) : topL (t.pt room) t = (t.mark room).1 ∧ ∀ x ∈ t.key?, look (t.pt room) x = some (mk0 (t.pt room) x) := by
  have h : ∀ x ∈ t.key?, look (t.pt room) x = some (t.mark room) := fun x hx => look_mem (Tr.pt_nodup room hnd) (Tr.key_mark room t x hx)
  have h2 : ∀ x ∈ t.key?, mk0 (t.pt room) x = t.mark room := fun x hx => by unfold mk0; rw [h x hx]; rfl
  refine ⟨?_, fun x hx => by rw [h x hx, h2 x hx]⟩
  cases t with
  | nil => rfl
  | node l k r => show (mk0 _ k).1 = _; rw [h2 k (by simp [Tr.key?])]
noncomputable def spWbm : Sp := fun vs H Q _ => ∃ (v : V) (t : Tr) (room : Int), vs = [v, .int room] ∧ Rep H v t.d ∧ t.ht < 80 ∧ t.size ≤ 60 ∧ t.keys.Nodup ∧ ∀ H', Same H H' → Q (.int (t.mark room).1) H'
section
variable {P : Program} {w : World} {K : PySem.W.Frag} {mg : Str → Option Value} {base : Heap}
theorem ok_wbm {f : Addr} (F : Fd K mg "worst_by_marks" s_worst_by_marks f) (T : Tx K mg) (C_top_level : Cal P w K mg base CX0 1 "top_level" spTop) (C_marks_by_key : Cal P w K mg base CX0 82 "marks_by_key" spByKey) : Cal P w K mg base CX0 83 "worst_by_marks" spWbm := by
  refine F.cal sc_worst_by_marks (fun _ _ _ _ _ _ us hl => L3.bind2 (fun _ _ => rfl) us hl) (fun vs H Q E h => ?_) (fun cdv A outer s H vs Q E hr h => ?_)
  · obtain ⟨v, t, room, rfl, _⟩ := h; rfl
  · obtain ⟨v, t, room, rfl, hv, hht, hz, hnd, q⟩ := h
    refine ⟨_, (bone (sret (qF C_top_level (hr.mono (by lia)) pass0 rfl (qcons (qv 0) (qcons (qF C_marks_by_key (hr.mono (by lia)) pass0 rfl (qcons (qv 0) (qcons (qv 1) qnil))) qnil))))), ?_⟩
    obtain ⟨h1, h2⟩ := top_is room hnd
    refine ⟨_, rfl, _, rfl, _, rfl, v, t, room, rfl, hv, hht, by lia, hnd, fun r H1 kvs n1 s1 e1 g1 => ?_⟩
    refine ⟨v, t, t.pt room, r, kvs, rfl, hv.mono s1, e1, g1, h2, ?_⟩
    rw [h1]
    exact q H1 s1
end
end K41C
namespace K41C
open PySem L2 L3
end K41C
namespace K41C
open PySem L2 L3
theorem rule_one (m : Int × Int) (room : Int) : ruleM [m] room = if 1 + m.2 ≤ room then (m.1, 1 + m.2) else (m.1 + 1, 1) := by
  simp [ruleM, maxI]
theorem rule_two (m n : Int × Int) (room : Int) : (m.1 = n.1 ∧ ruleM [m, n] room = if 1 + (m.2 + n.2) ≤ room then (m.1, 1 + (m.2 + n.2)) else (m.1 + 1, 1)) ∨ (n.1 < m.1 ∧ ruleM [m, n] room = if 1 + m.2 ≤ room then (m.1, 1 + m.2) else (m.1 + 1, 1)) ∨ (m.1 < n.1 ∧ ruleM [m, n] room = if 1 + n.2 ≤ room then (n.1, 1 + n.2) else (n.1 + 1, 1)) := by
  have h0 : ruleM [m, n] room = (let lv := max m.1 n.1
    let sz := 1 + (([m, n].filter fun p => decide (p.1 = lv)).map (·.2)).sum
    if sz ≤ room then (lv, sz) else (lv + 1, 1)) := by simp [ruleM, maxI]
  rw [h0]
  dsimp only
  rcases Int.lt_trichotomy m.1 n.1 with h | h | h
  · right; right
    refine ⟨h, ?_⟩
    have hm : max m.1 n.1 = n.1 := by lia
    rw [hm, List.filter_cons_of_neg (by simp; lia), List.filter_cons_of_pos (by simp)]
    simp
  · left
    refine ⟨h, ?_⟩
    have hm : max m.1 n.1 = m.1 := by lia
    rw [hm, List.filter_cons_of_pos (by simp), List.filter_cons_of_pos (by simp [h])]
    simp
  · right; left
    refine ⟨h, ?_⟩
    have hm : max m.1 n.1 = m.1 := by lia
    rw [hm, List.filter_cons_of_pos (by simp), List.filter_cons_of_neg (by simp; lia)]
    simp
end K41C
namespace K41C
open PySem L2 L3 K41
noncomputable def leL (a b : Int × Int) : Prop := a.1 < b.1 ∨ (a.1 = b.1 ∧ a.2 ≤ b.2)
theorem sz_pos (room : Int) : ∀ t : Tr, t ≠ .nil → 1 ≤ (t.mark room).2
  | .nil, h => absurd rfl h
  | .node l k r, _ => by
    have hl := fun h => sz_pos room l h
    have hr := fun h => sz_pos room r h
    rw [Tr.mark_node]
    cases l with
    | nil =>
      cases r with
      | nil => exact Int.le_refl _
      | node rl rk rr =>
        have hr := hr (by simp)
        show 1 ≤ (ruleM [(Tr.node rl rk rr).mark room] room).2
        rw [rule_one]
        split
        · show 1 ≤ 1 + _; lia
        · exact Int.le_refl _
    | node ll lk lr =>
      have hl := hl (by simp)
      cases r with
      | nil =>
        show 1 ≤ (ruleM [(Tr.node ll lk lr).mark room] room).2
        rw [rule_one]
        split
        · show 1 ≤ 1 + _; lia
        · exact Int.le_refl _
      | node rl rk rr =>
        have hr := hr (by simp)
        show 1 ≤ (ruleM [(Tr.node ll lk lr).mark room, (Tr.node rl rk rr).mark room] room).2
        rcases rule_two ((Tr.node ll lk lr).mark room) ((Tr.node rl rk rr).mark room) room with ⟨_, h⟩ | ⟨_, h⟩ | ⟨_, h⟩
        all_goals
          rw [h]
          split
          · show 1 ≤ 1 + _; lia
          · exact Int.le_refl _
theorem one_le {a b : Int × Int} {room : Int} (h : leL a b) (hb : 1 ≤ b.2) : leL (ruleM [a] (room + 1)) (ruleM [b] room) := by
  rw [rule_one, rule_one]
  obtain ⟨a1, a2⟩ := a
  obtain ⟨b1, b2⟩ := b
  unfold leL at h ⊢
  simp only at *
  split <;> split <;> simp only <;> lia
theorem two_le {a b c d : Int × Int} {room : Int} (h : leL a b) (h' : leL c d) (ha : 1 ≤ a.2) (hb : 1 ≤ b.2) (hc : 1 ≤ c.2) (hd : 1 ≤ d.2) : leL (ruleM [a, c] (room + 1)) (ruleM [b, d] room) := by
  obtain ⟨a1, a2⟩ := a
  obtain ⟨b1, b2⟩ := b
  obtain ⟨c1, c2⟩ := c
  obtain ⟨d1, d2⟩ := d
  unfold leL at h h' ⊢
  simp only at *
  rcases rule_two (a1, a2) (c1, c2) (room + 1) with ⟨e1, h1⟩ | ⟨e1, h1⟩ | ⟨e1, h1⟩ <;> rcases rule_two (b1, b2) (d1, d2) room with ⟨e2, h2⟩ | ⟨e2, h2⟩ | ⟨e2, h2⟩ <;> rw [h1, h2] <;> simp only at * <;> split <;> split <;> simp only <;> lia
theorem mark_room (room : Int) : ∀ t : Tr, t ≠ .nil → leL (t.mark (room + 1)) (t.mark room)
  | .nil, h => absurd rfl h
  | .node l k r, _ => by
    have hl := fun h => mark_room room l h
    have hr := fun h => mark_room room r h
    have pl := fun h => sz_pos room l h
    have pr := fun h => sz_pos room r h
    have ql := fun h => sz_pos (room + 1) l h
    have qr := fun h => sz_pos (room + 1) r h
    rw [Tr.mark_node, Tr.mark_node]
    cases l with
    | nil =>
      cases r with
      | nil => exact .inr ⟨rfl, Int.le_refl _⟩
      | node rl rk rr => exact one_le (hr (by simp)) (pr (by simp))
    | node ll lk lr =>
      cases r with
      | nil => exact one_le (hl (by simp)) (pl (by simp))
      | node rl rk rr => exact two_le (hl (by simp)) (hr (by simp)) (ql (by simp)) (pl (by simp)) (qr (by simp)) (pr (by simp))
theorem rule_swap (a b : Int × Int) (room : Int) : ruleM [a, b] room = ruleM [b, a] room := by
  rcases rule_two a b room with ⟨e, g⟩ | ⟨e, g⟩ | ⟨e, g⟩ <;> rcases rule_two b a room with ⟨e', g'⟩ | ⟨e', g'⟩ | ⟨e', g'⟩ <;> rw [g, g'] <;> first | lia | (rw [Int.add_comm b.2 a.2, e]) | rfl
end K41C
namespace K41C
open PySem L2 L3 K41
noncomputable def sh (a : Int × Int) : Int × Int := (a.1 + 1, a.2)
theorem rule_nil (room : Int) : ruleM [] room = (1, 1) := rfl
theorem lv_pos (room : Int) : ∀ t : Tr, t ≠ .nil → 1 ≤ (t.mark room).1
  | .nil, h => absurd rfl h
  | .node l k r, _ => by
    have hl := fun h => lv_pos room l h
    have hr := fun h => lv_pos room r h
    rw [Tr.mark_node]
    cases l with
    | nil =>
      cases r with
      | nil => exact Int.le_refl _
      | node rl rk rr =>
        have hr := hr (by simp)
        show 1 ≤ (ruleM [(Tr.node rl rk rr).mark room] room).1
        rw [rule_one]
        split
        · exact hr
        · show 1 ≤ _ + 1; lia
    | node ll lk lr =>
      have hl := hl (by simp)
      cases r with
      | nil =>
        show 1 ≤ (ruleM [(Tr.node ll lk lr).mark room] room).1
        rw [rule_one]
        split
        · exact hl
        · show 1 ≤ _ + 1; lia
      | node rl rk rr =>
        have hr := hr (by simp)
        show 1 ≤ (ruleM [(Tr.node ll lk lr).mark room, (Tr.node rl rk rr).mark room] room).1
        rcases rule_two ((Tr.node ll lk lr).mark room) ((Tr.node rl rk rr).mark room) room with ⟨_, h⟩ | ⟨_, h⟩ | ⟨_, h⟩
        all_goals
          rw [h]
          split
          · first | exact hl | exact hr
          · show 1 ≤ _ + 1; lia
theorem r1 (a1 a2 room : Int) : ∃ R1 R2 : Int, ruleM [(a1, a2)] room = (R1, R2) ∧ ((R1 = a1 ∧ R2 = 1 + a2 ∧ 1 + a2 ≤ room) ∨ (R1 = a1 + 1 ∧ R2 = 1 ∧ room < 1 + a2)) := by
  rw [rule_one]
  by_cases h : 1 + a2 ≤ room
  · exact ⟨_, _, if_pos h, .inl ⟨rfl, rfl, h⟩⟩
  · exact ⟨_, _, if_neg h, .inr ⟨rfl, rfl, Int.not_le.mp h⟩⟩
theorem r2 (a1 a2 c1 c2 room : Int) : ∃ R1 R2 M S : Int, ruleM [(a1, a2), (c1, c2)] room = (R1, R2) ∧ ((R1 = M ∧ R2 = S ∧ S ≤ room) ∨ (R1 = M + 1 ∧ R2 = 1 ∧ room < S)) ∧
    ((a1 = c1 ∧ M = a1 ∧ S = 1 + (a2 + c2)) ∨ (c1 < a1 ∧ M = a1 ∧ S = 1 + a2) ∨ (a1 < c1 ∧ M = c1 ∧ S = 1 + c2)) := by
  rcases rule_two (a1, a2) (c1, c2) room with ⟨e, h⟩ | ⟨e, h⟩ | ⟨e, h⟩
  · by_cases z : 1 + (a2 + c2) ≤ room
    · exact ⟨_, _, a1, 1 + (a2 + c2), h.trans (if_pos z), .inl ⟨rfl, rfl, z⟩, .inl ⟨e, rfl, rfl⟩⟩
    · exact ⟨_, _, a1, 1 + (a2 + c2), h.trans (if_neg z), .inr ⟨rfl, rfl, Int.not_le.mp z⟩, .inl ⟨e, rfl, rfl⟩⟩
  · by_cases z : 1 + a2 ≤ room
    · exact ⟨_, _, a1, 1 + a2, h.trans (if_pos z), .inl ⟨rfl, rfl, z⟩, .inr (.inl ⟨e, rfl, rfl⟩)⟩
    · exact ⟨_, _, a1, 1 + a2, h.trans (if_neg z), .inr ⟨rfl, rfl, Int.not_le.mp z⟩, .inr (.inl ⟨e, rfl, rfl⟩)⟩
  · by_cases z : 1 + c2 ≤ room
    · exact ⟨_, _, c1, 1 + c2, h.trans (if_pos z), .inl ⟨rfl, rfl, z⟩, .inr (.inr ⟨e, rfl, rfl⟩)⟩
    · exact ⟨_, _, c1, 1 + c2, h.trans (if_neg z), .inr ⟨rfl, rfl, Int.not_le.mp z⟩, .inr (.inr ⟨e, rfl, rfl⟩)⟩
theorem one_mono {a b : Int × Int} {room : Int} (h : leL a b) (ha : 1 ≤ a.2) (hb : 1 ≤ b.2) : leL (ruleM [a] room) (ruleM [b] room) := by
  obtain ⟨a1, a2⟩ := a
  obtain ⟨b1, b2⟩ := b
  obtain ⟨R1, R2, e, h1⟩ := r1 a1 a2 room
  obtain ⟨Q1, Q2, e', h2⟩ := r1 b1 b2 room
  rw [e, e']
  have h : a1 < b1 ∨ (a1 = b1 ∧ a2 ≤ b2) := h
  have ha : 1 ≤ a2 := ha
  have hb : 1 ≤ b2 := hb
  show R1 < Q1 ∨ (R1 = Q1 ∧ R2 ≤ Q2)
  clear e e'
  lia
theorem two_mono {a b c : Int × Int} {room : Int} (h : leL a b) (ha : 1 ≤ a.2) (hb : 1 ≤ b.2) (hc : 1 ≤ c.2) : leL (ruleM [a, c] room) (ruleM [b, c] room) := by
  obtain ⟨a1, a2⟩ := a
  obtain ⟨b1, b2⟩ := b
  obtain ⟨c1, c2⟩ := c
  obtain ⟨R1, R2, M, S, e, h1, h3⟩ := r2 a1 a2 c1 c2 room
  obtain ⟨Q1, Q2, N, T, e', h2, h4⟩ := r2 b1 b2 c1 c2 room
  rw [e, e']
  have h : a1 < b1 ∨ (a1 = b1 ∧ a2 ≤ b2) := h
  have ha : 1 ≤ a2 := ha
  have hb : 1 ≤ b2 := hb
  have hc : 1 ≤ c2 := hc
  show R1 < Q1 ∨ (R1 = Q1 ∧ R2 ≤ Q2)
  clear e e'
  rcases h3 with h3 | h3 | h3 <;> rcases h4 with h4 | h4 | h4 <;> lia
theorem two_sh {a b c : Int × Int} {room : Int} (h : leL a (sh b)) (ha : 1 ≤ a.2) (hb : 1 ≤ b.2) (hc : 1 ≤ c.2) : leL (ruleM [a, c] room) (sh (ruleM [b, c] room)) := by
  obtain ⟨a1, a2⟩ := a
  obtain ⟨b1, b2⟩ := b
  obtain ⟨c1, c2⟩ := c
  obtain ⟨R1, R2, M, S, e, h1, h3⟩ := r2 a1 a2 c1 c2 room
  obtain ⟨Q1, Q2, N, T, e', h2, h4⟩ := r2 b1 b2 c1 c2 room
  rw [e, e']
  have h : a1 < b1 + 1 ∨ (a1 = b1 + 1 ∧ a2 ≤ b2) := h
  have ha : 1 ≤ a2 := ha
  have hb : 1 ≤ b2 := hb
  have hc : 1 ≤ c2 := hc
  show R1 < Q1 + 1 ∨ (R1 = Q1 + 1 ∧ R2 ≤ Q2)
  clear e e'
  rcases h3 with h3 | h3 | h3 <;> rcases h4 with h4 | h4 | h4 <;> lia
theorem one_sh {a b : Int × Int} {room : Int} (h : leL a (sh b)) (ha : 1 ≤ a.2) (hb : 1 ≤ b.2) : leL (ruleM [a] room) (sh (ruleM [b] room)) := by
  obtain ⟨a1, a2⟩ := a
  obtain ⟨b1, b2⟩ := b
  obtain ⟨R1, R2, e, h1⟩ := r1 a1 a2 room
  obtain ⟨Q1, Q2, e', h2⟩ := r1 b1 b2 room
  rw [e, e']
  have h : a1 < b1 + 1 ∨ (a1 = b1 + 1 ∧ a2 ≤ b2) := h
  have ha : 1 ≤ a2 := ha
  have hb : 1 ≤ b2 := hb
  show R1 < Q1 + 1 ∨ (R1 = Q1 + 1 ∧ R2 ≤ Q2)
  clear e e'
  lia
theorem leaf_more {c : Int × Int} {room : Int} (h1 : 1 ≤ c.1) (h2 : 1 ≤ c.2) : leL (ruleM [c] room) (ruleM [(1, 1), c] room) ∧ leL (ruleM [(1, 1), c] room) (sh (ruleM [c] room)) := by
  obtain ⟨c1, c2⟩ := c
  obtain ⟨R1, R2, M, S, e, g1, g3⟩ := r2 1 1 c1 c2 room
  obtain ⟨Q1, Q2, e', g2⟩ := r1 c1 c2 room
  rw [e, e']
  have h1 : 1 ≤ c1 := h1
  have h2 : 1 ≤ c2 := h2
  show (Q1 < R1 ∨ (Q1 = R1 ∧ Q2 ≤ R2)) ∧ (R1 < Q1 + 1 ∨ (R1 = Q1 + 1 ∧ R2 ≤ Q2))
  clear e e'
  rcases g3 with h3 | h3 | h3 <;> refine ⟨?_, ?_⟩ <;> lia
theorem self_le {a : Int × Int} {room : Int} (h2 : 1 ≤ a.2) : leL a (ruleM [a] room) ∧ leL (ruleM [a] room) (sh a) := by
  obtain ⟨a1, a2⟩ := a
  obtain ⟨Q1, Q2, e', g2⟩ := r1 a1 a2 room
  rw [e']
  have h2 : 1 ≤ a2 := h2
  show (a1 < Q1 ∨ (a1 = Q1 ∧ a2 ≤ Q2)) ∧ (Q1 < a1 + 1 ∨ (Q1 = a1 + 1 ∧ Q2 ≤ a2))
  clear e'
  refine ⟨?_, ?_⟩ <;> lia
noncomputable def SplM (room : Int) (s s' : Tr) : Prop := leL (s'.mark room) (s.mark room) ∧ (s' ≠ .nil → leL (s.mark room) (sh (s'.mark room))) ∧ (s' = .nil → s.mark room = (1, 1))
theorem mk1_ne (room : Int) {t : Tr} (h : t ≠ .nil) : t.mk1 room = [t.mark room] := by
  cases t with
  | nil => exact absurd rfl h
  | node _ _ _ => rfl
theorem splm_side {room : Int} {l l' r : Tr} (x y : Int) (hl : l ≠ .nil) (h : SplM room l l') : SplM room (.node l x r) (.node l' y r) := by
  obtain ⟨h1, h2, h3⟩ := h
  have pl := sz_pos room l hl
  have key : leL (ruleM (l'.mk1 room ++ r.mk1 room) room) (ruleM (l.mk1 room ++ r.mk1 room) room) ∧ leL (ruleM (l.mk1 room ++ r.mk1 room) room) (sh (ruleM (l'.mk1 room ++ r.mk1 room) room)) := by
    rw [mk1_ne room hl]
    by_cases hl' : l' = .nil
    · rw [h3 hl', hl', show Tr.mk1 room .nil = [] from rfl]
      by_cases hr : r = .nil
      · rw [hr, show Tr.mk1 room .nil = [] from rfl]
        show leL (ruleM [] room) (ruleM [(1, 1)] room) ∧ leL (ruleM [(1, 1)] room) (sh (ruleM [] room))
        rw [rule_nil]
        exact self_le (a := (1, 1)) (by decide)
      · rw [mk1_ne room hr]
        exact leaf_more (lv_pos room r hr) (sz_pos room r hr)
    · have pl' := sz_pos room l' hl'
      rw [mk1_ne room hl']
      by_cases hr : r = .nil
      · rw [hr, show Tr.mk1 room .nil = [] from rfl]
        exact ⟨one_mono h1 pl' pl, one_sh (h2 hl') pl pl'⟩
      · rw [mk1_ne room hr]
        have pr := sz_pos room r hr
        exact ⟨two_mono h1 pl' pl pr, two_sh (h2 hl') pl pl' pr⟩
  unfold SplM
  rw [Tr.mark_node, Tr.mark_node]
  exact ⟨key.1, fun _ => key.2, fun z => nomatch z⟩
theorem mk_swap (room : Int) (l r : Tr) (x : Int) : (Tr.node l x r).mark room = (Tr.node r x l).mark room := by
  rw [Tr.mark_node, Tr.mark_node]
  cases l with
  | nil => cases r <;> rfl
  | node a b c =>
    cases r with
    | nil => rfl
    | node d e f => exact rule_swap _ _ room
theorem spl_ne {s s' : Tr} (h : Spl s s') : s ≠ .nil := by cases h <;> exact fun z => nomatch z
theorem spl_mark (room : Int) {s s' : Tr} (h : Spl s s') : SplM room s s' := by
  have base : ∀ (u : Tr) (x : Int), SplM room (.node u x .nil) u := fun u x => by
    unfold SplM
    rw [Tr.mark_node, show Tr.mk1 room .nil = [] from rfl, List.append_nil]
    cases u with
    | nil => exact ⟨.inl (show (0 : Int) < 1 by decide), fun z => absurd rfl z, fun _ => rfl⟩
    | node a b c =>
      have p := sz_pos room (.node a b c) (fun z => nomatch z)
      exact ⟨(self_le p).1, fun _ => (self_le p).2, fun z => nomatch z⟩
  induction h with
  | l u x => exact base u x
  | r u x =>
    have := base u x
    unfold SplM at *
    rw [mk_swap]; exact this
  | left r x y h ih => exact splm_side x y (spl_ne h) ih
  | right l x y h ih =>
    have := splm_side (r := l) x y (spl_ne h) ih
    unfold SplM at *
    rw [mk_swap room l _ x, mk_swap room l _ y]
    exact ⟨this.1, fun _ => this.2.1 (fun z => nomatch z), fun z => nomatch z⟩
theorem spl_lev (room : Int) {s s' : Tr} (h : Spl s s') : (s'.mark room).1 ≤ (s.mark room).1 ∧ (s.mark room).1 ≤ (s'.mark room).1 + 1 := by
  obtain ⟨h1, h2, h3⟩ := spl_mark room h
  have h1 : _ < _ ∨ (_ = _ ∧ _ ≤ _) := h1
  refine ⟨by lia, ?_⟩
  by_cases z : s' = .nil
  · rw [h3 z, z]; show (1 : Int) ≤ 0 + 1; lia
  · have h4 : (s.mark room).1 < (s'.mark room).1 + 1 ∨ ((s.mark room).1 = (s'.mark room).1 + 1 ∧ (s.mark room).2 ≤ (s'.mark room).2) := h2 z
    lia
theorem lev_ins (room k : Int) (t : Tr) : (t.mark room).1 ≤ ((t.ins k).mark room).1 ∧ ((t.ins k).mark room).1 ≤ (t.mark room).1 + 1 := spl_lev room (spl_ins k t)
theorem lev_del (room : Int) {k : Int} {t : Tr} (ho : t.ord none none) (h : k ∈ t.keys) : ((del t k).mark room).1 ≤ (t.mark room).1 ∧ (t.mark room).1 ≤ ((del t k).mark room).1 + 1 := spl_lev room (spl_del t k _ _ ho h)
theorem lev_room (room : Int) (t : Tr) : (t.mark (room + 1)).1 ≤ (t.mark room).1 := by
  by_cases z : t = .nil
  · rw [z]; exact Int.le_refl _
  · have := mark_room room t z
    unfold leL at this
    lia
end K41C
namespace K41C
open PySem L2 L3 K41
noncomputable def Kd (H H' : Hp) : Prop := ∀ x o, H x = some o → (∀ C dx fs, o ≠ .ins C dx fs) → H' x = some o
theorem Kd.trans {H H1 H2 : Hp} (a : Kd H H1) (b : Kd H1 H2) : Kd H H2 := fun x o e h => b x o (a x o e h) h
theorem Kd.same {H H' : Hp} (s : Same H H') : Kd H H' := fun x o e _ => s x o e
theorem Kd.rm {H H' : Hp} {p C dx : Addr} {fs : List (Str × V)} (hp : H p = some (.ins C dx fs)) (s : Same (L3.rm p H) H') : Kd H H' := fun x o e h => rm_look s e (fun z => by rw [z, hp] at e; exact h _ _ _ (Option.some.inj e).symm)
mutual
theorem rep_kd {H H' : Hp} (k : Kd H H') {v : V} {d : D} : Rep H v d → Rep H' v d
  | .non => .non
  | .bl b => .bl b
  | .int i => .int i
  | .str x => .str x
  | .tup e r => .tup (k _ _ e fun _ _ _ z => nomatch z) (reps_kd k r)
  | .lst e r => .lst (k _ _ e fun _ _ _ z => nomatch z) (reps_kd k r)
  | .emp e => .emp (k _ _ e fun _ _ _ z => nomatch z)
theorem reps_kd {H H' : Hp} (k : Kd H H') {vs : List V} {ds : List D} : Reps H vs ds → Reps H' vs ds
  | .nil => .nil
  | .cons h r => .cons (rep_kd k h) (reps_kd k r)
end
theorem n_rk : ¬ (("room" : Str) = "kept") := by decide +kernel
theorem n_rc : ¬ (("room" : Str) = "changed") := by decide +kernel
theorem n_kc : ¬ (("kept" : Str) = "changed") := by decide +kernel
noncomputable def fl (r : Int) (v b : V) : List (Str × V) := [("room", .int r), ("kept", v), ("changed", b)]
theorem put_k0 (r : Int) (v : V) : putF "kept" v [("room", V.int r)] = ([("room", .int r), ("kept", v)] : List (Str × V)) := by
  show (if ("room" : Str) = "kept" then _ else (("room" : Str), V.int r) :: [(("kept" : Str), v)]) = _
  rw [if_neg n_rk]
theorem put_c0 (r : Int) (v b : V) : putF "changed" b [("room", V.int r), ("kept", v)] = fl r v b := by
  show (if ("room" : Str) = "changed" then _ else (("room" : Str), V.int r) :: (if ("kept" : Str) = "changed" then _ else (("kept" : Str), v) :: [(("changed" : Str), b)])) = _
  rw [if_neg n_rc, if_neg n_kc]; rfl
theorem put_k (r : Int) (v v' b : V) : putF "kept" v' (fl r v b) = fl r v' b := by
  show (if ("room" : Str) = "kept" then _ else (("room" : Str), V.int r) :: (if ("kept" : Str) = "kept" then (("kept" : Str), v') :: [(("changed" : Str), b)] else _)) = _
  rw [if_neg n_rk, if_pos rfl]; rfl
theorem put_c (r : Int) (v b b' : V) : putF "changed" b' (fl r v b) = fl r v b' := by
  show (if ("room" : Str) = "changed" then _ else (("room" : Str), V.int r) :: (if ("kept" : Str) = "changed" then _ else (("kept" : Str), v) :: (if ("changed" : Str) = "changed" then [(("changed" : Str), b')] else _))) = _
  rw [if_neg n_rc, if_neg n_kc, if_pos rfl]; rfl
theorem fl_is (r : Int) (v b : V) : fl r v b = putF "changed" b (putF "kept" v (putF "room" (.int r) [])) := by
  rw [show putF "room" (.int r) [] = [(("room" : Str), V.int r)] from rfl, put_k0, put_c0]
theorem fl_room (r : Int) (v b : V) : (fl r v b).lookup ("room" : Str) = some (.int r) := by
  rw [fl_is, lookup_putF, if_neg n_rc, lookup_putF, if_neg n_rk, lookup_putF, if_pos rfl]
theorem fl_kept (r : Int) (v b : V) : (fl r v b).lookup ("kept" : Str) = some v := by
  rw [fl_is, lookup_putF, if_neg n_kc, lookup_putF, if_pos rfl]
theorem fl_ch (r : Int) (v b : V) : (fl r v b).lookup ("changed" : Str) = some b := by
  rw [fl_is, lookup_putF, if_pos rfl]
theorem fl_no (r : Int) (v b : V) {m : Str} (h : (m = "room" ∨ m = "kept" ∨ m = "changed") → False) : (fl r v b).lookup m = none := by
  rw [fl_is, lookup_putF, if_neg (fun z => h (.inr (.inr z))), lookup_putF, if_neg (fun z => h (.inr (.inl z))), lookup_putF, if_neg (fun z => h (.inl z))]; rfl
noncomputable def Ends2 (H : Hp) (b : Addr) (come gone : List (Int × Int)) : Prop := ∃ (c g : Addr) (wc wg : List V), H b = some (.tup [.ref c, .ref g]) ∧ H c = some (.lst wc) ∧ Reps H wc (come.map pairD) ∧ H g = some (.lst wg) ∧ Reps H wg (gone.map pairD)
theorem Ends2.kd {H H' : Hp} (k : Kd H H') {b : Addr} {x y : List (Int × Int)} (h : Ends2 H b x y) : Ends2 H' b x y := by
  obtain ⟨c, g, wc, wg, h1, h2, h3, h4, h5⟩ := h
  exact ⟨c, g, wc, wg, k _ _ h1 (fun _ _ _ z => nomatch z), k _ _ h2 (fun _ _ _ z => nomatch z), reps_kd k h3, k _ _ h4 (fun _ _ _ z => nomatch z), reps_kd k h5⟩
structure ShA (C : Addr) (H : Hp) (p : Addr) (room : Int) (t : Tr) (x y : List (Int × Int)) : Prop where
  ob : ∃ (dx b : Addr) (v : V), H p = some (.ins C dx (fl room v (.ref b))) ∧ Rep H v t.d ∧ Ends2 H b x y
theorem ShA.ins {C : Addr} {H : Hp} {p : Addr} {room : Int} {t : Tr} {x y : List (Int × Int)} (h : ShA C H p room t x y) : ∃ dx fs, H p = some (.ins C dx fs) := by
  obtain ⟨dx, b, v, e, _⟩ := h.ob
  exact ⟨_, _, e⟩
theorem ShA.same {C : Addr} {H H' : Hp} {p : Addr} {room : Int} {t : Tr} {x y : List (Int × Int)} (h : ShA C H p room t x y) (s : Same H H') : ShA C H' p room t x y := by
  obtain ⟨dx, b, v, e, g, z⟩ := h.ob
  exact ⟨dx, b, v, s _ _ e, g.mono s, z.kd (.same s)⟩
theorem ShA.other {C : Addr} {H H' : Hp} {p p' : Addr} {room room' : Int} {t t' : Tr} {x y x' y' : List (Int × Int)} (h : ShA C H p room t x y) (h' : ShA C H p' room' t' x' y') (hne : p ≠ p') (s : Same (rm p' H) H') : ShA C H' p room t x y := by
  obtain ⟨dx, b, v, e, g, z⟩ := h.ob
  obtain ⟨_, _, e'⟩ := h'.ins
  have k := Kd.rm e' s
  exact ⟨dx, b, v, rm_look s e hne, rep_kd k g, z.kd k⟩
structure Sm (t : Tr) : Prop where
  z : t.size ≤ 59
  o : t.ord none none
theorem Sm.nd {t : Tr} (h : Sm t) : t.keys.Nodup := (ord_rise t _ _ h.o).imp fun h => Int.ne_of_lt h
theorem Sm.ht {t : Tr} (h : Sm t) : t.ht < 80 := by have := h.z; have := Tr.ht_size t; lia
structure Nx (K : PySem.W.Frag) (C : Addr) : Prop where
  r : NoAttr K C "room"
  k : NoAttr K C "kept"
  c : NoAttr K C "changed"
noncomputable def Chg (room : Int) (t t' : Tr) (x y : List (Int × Int)) : Prop := ∃ q1 q2, q1.Perm (tS room t) ∧ Rises q1 ∧ q2.Perm (tS room t') ∧ Rises q2 ∧ x = q2.filter (nin q1) ∧ y = q1.filter (nin q2)
noncomputable def spInit (C : Addr) : Sp := fun vs H Q _ => ∃ (p dx : Addr) (room : Int), vs = [.ref p, .int room] ∧ H p = some (.ins C dx []) ∧ ∀ H', Same (rm p H) H' → ShA C H' p room .nil [] [] → Q .non H'
noncomputable def spKeep (C : Addr) : Sp := fun vs H Q _ => ∃ (p : Addr) (v' : V) (room : Int) (t t' : Tr) (x y : List (Int × Int)), vs = [.ref p, v'] ∧ ShA C H p room t x y ∧ Rep H v' t'.d ∧ t.size ≤ 60 ∧ t'.size ≤ 60 ∧ t.ht < 80 ∧ t'.ht < 80 ∧ t.keys.Nodup ∧ t'.keys.Nodup ∧
  ∀ H' x' y', Same (rm p H) H' → Chg room t t' x' y' → ShA C H' p room t' x' y' → Q .non H'
noncomputable def spPutM (C cH : Addr) : Sp := fun vs H Q E => ∃ (p : Addr) (k room : Int) (t : Tr) (x y : List (Int × Int)), vs = [.ref p, .int k] ∧ ShA C H p room t x y ∧ Sm t ∧ (k ∈ t.keys → E (.ref cH) none H) ∧
  (k ∉ t.keys → ∀ H' x' y', Same (rm p H) H' → Chg room t (t.ins k) x' y' → ShA C H' p room (t.ins k) x' y' → Q .non H')
noncomputable def spTakeM (C cN : Addr) : Sp := fun vs H Q E => ∃ (p : Addr) (k room : Int) (t : Tr) (x y : List (Int × Int)), vs = [.ref p, .int k] ∧ ShA C H p room t x y ∧ Sm t ∧ (k ∉ t.keys → E (.ref cN) none H) ∧
  (k ∈ t.keys → ∀ H' x' y', Same (rm p H) H' → Chg room t (del t k) x' y' → ShA C H' p room (del t k) x' y' → Q .non H')
noncomputable def spTreeM (C : Addr) : Sp := fun vs H Q _ => ∃ (p : Addr) (room : Int) (t : Tr) (x y : List (Int × Int)), vs = [.ref p] ∧ ShA C H p room t x y ∧ ∀ v, Rep H v t.d → Q v H
noncomputable def spTableM (C : Addr) : Sp := fun vs H Q _ => ∃ (p : Addr) (room : Int) (t : Tr) (x y : List (Int × Int)), vs = [.ref p] ∧ ShA C H p room t x y ∧ Sm t ∧ ∀ r H' ws, Same H H' → H' r = some (.lst ws) → Reps H' ws ((t.io room).map rowD) → Q (.ref r) H'
noncomputable def spLayM (C : Addr) : Sp := fun vs H Q _ => ∃ (p : Addr) (room : Int) (t : Tr) (x y : List (Int × Int)), vs = [.ref p] ∧ ShA C H p room t x y ∧ Sm t ∧ ∀ r H' bs L, Same H H' → H' r = some (.lst (bs.map V.ref)) → Pgs H' bs L → L.Perm (((en room t).map (·.2)).map so) → LexS L → Q (.ref r) H'
noncomputable def spWorstM (C : Addr) : Sp := fun vs H Q _ => ∃ (p : Addr) (room : Int) (t : Tr) (x y : List (Int × Int)), vs = [.ref p] ∧ ShA C H p room t x y ∧ Sm t ∧ ∀ H', Same H H' → Q (.int (t.mark room).1) H'
noncomputable def spHasM (C : Addr) : Sp := fun vs H Q _ => ∃ (p : Addr) (k room : Int) (t : Tr) (x y : List (Int × Int)), vs = [.ref p, .int k] ∧ ShA C H p room t x y ∧ Sm t ∧ Q (.bl (decide (k ∈ t.keys))) H
noncomputable def spLastM (C : Addr) : Sp := fun vs H Q _ => ∃ (p : Addr) (room : Int) (t : Tr) (x y : List (Int × Int)), vs = [.ref p] ∧ ShA C H p room t x y ∧ x.length ≤ 1000 ∧ y.length ≤ 1000 ∧ ∀ b H', Same H H' → Ends2 H' b x y → Q (.ref b) H'
section
variable {P : Program} {w : World} {K : PySem.W.Frag} {mg : Str → Option Value} {base : Heap}
theorem ok_init {f C : Addr} (F : FdM K C "__init__" "Shelf.__init__" s_Shelf___init__ f) (cl : Cls K C) (N : Nx K C) (T : Tx K mg) : CalM P w K mg base CX0 1 C "__init__" (spInit C) := by
  refine F.cal cl sc_Shelf___init__ (fun _ _ _ _ _ _ us hl => L3.bind2 (fun _ _ => rfl) us hl) (fun vs H Q E h => ?_) (fun cdv A outer s H vs Q E hr h => ?_)
  · obtain ⟨p, dx, room, rfl, _⟩ := h; rfl
  · obtain ⟨p, dx, room, rfl, hp, q⟩ := h
    refine ⟨_, (bcons (sfld K (qv 0) (qv 1))
      (bcons (sfld K (qv 0) qnon)
      (bone (sfld K (qv 0) (qtup (qcons (qlst qnil) (qcons (qlst qnil) qnil))))))), ?_⟩
    refine ⟨_, rfl, _, rfl, p, C, dx, [], rfl, hp, cl, N.r, (show 0 < 1000 by decide), ?_⟩
    refine ⟨_, rfl, p, C, dx, _, rfl, upd_same, cl, N.k, (show 1 < 1000 by decide), ?_⟩
    refine ⟨(show 0 ≤ sizeLine by decide), fun c H1 n1 s1 e1 _ => ?_⟩
    refine ⟨(show 0 ≤ sizeLine by decide), fun g H2 n2 s2 e2 _ => ?_⟩
    refine ⟨(show 2 ≤ sizeLine by decide), fun b H3 n3 s3 e3 _ => ?_⟩
    have hp3 := (s1.trans (s2.trans s3)) _ _ (upd_same (H := upd H p (.ins C dx (putF "room" (.int room) []))) (a := p) (o := .ins C dx (putF "kept" .non (putF "room" (.int room) []))))
    refine ⟨_, rfl, p, C, dx, _, rfl, hp3, cl, N.c, (by rw [show putF "room" (.int room) [] = [(("room" : Str), V.int room)] from rfl, put_k0]; show 2 < 1000; decide), ?_⟩
    refine q _ (fun x o hx => ?_) ⟨dx, b, .non, ?_, .non, c, g, [], [], ?_, ?_, .nil, ?_, .nil⟩
    · have hxp : x ≠ p := fun z => by rw [z, rm_self] at hx; cases hx
      rw [rm_ne hxp] at hx
      rw [upd_ne hxp]
      exact (s1.trans (s2.trans s3)) _ _ (by rw [upd_ne hxp, upd_ne hxp]; exact hx)
    · rw [upd_same, show putF "room" (.int room) [] = [(("room" : Str), V.int room)] from rfl, put_k0, put_c0]
    · rw [upd_ne (fun z => by rw [z, hp3] at e3; cases e3)]; exact e3
    · have e := (s2.trans s3) _ _ e1
      rw [upd_ne (fun z => by rw [z, hp3] at e; cases e)]; exact e
    · have e := s3 _ _ e2
      rw [upd_ne (fun z => by rw [z, hp3] at e; cases e)]; exact e
theorem ok_keep {f C : Addr} (F : FdM K C "keep" "Shelf.keep" s_Shelf_keep f) (cl : Cls K C) (N : Nx K C) (T : Tx K mg) (C_come_and_gone : Cal P w K mg base CX0 86 "come_and_gone" spCG) : CalM P w K mg base CX0 87 C "keep" (spKeep C) := by
  refine F.cal cl sc_Shelf_keep (fun _ _ _ _ _ _ us hl => L3.bind2 (fun _ _ => rfl) us hl) (fun vs H Q E h => ?_) (fun cdv A outer s H vs Q E hr h => ?_)
  · obtain ⟨p, v', room, t, t', x, y, rfl, _⟩ := h; rfl
  · obtain ⟨p, v', room, t, t', x, y, rfl, S, hv', z1, z2, h1, h2, d1, d2, q⟩ := h
    obtain ⟨dx, b0, v, hp, hv, _⟩ := S.ob
    refine ⟨_, (bcons (sfld K (qv 0) (qF C_come_and_gone (hr.mono (by lia)) pass0 rfl (qcons (qfld K (qv 0)) (qcons (qv 1) (qcons (qfld K (qv 0)) qnil)))))
      (bone (sfld K (qv 0) (qv 1)))), ?_⟩
    refine ⟨_, rfl, p, C, dx, _, _, rfl, hp, cl, N.k, fl_kept _ _ _, _, rfl, _, rfl, p, C, dx, _, _, rfl, hp, cl, N.r, fl_room _ _ _, v, v', t, t', room, rfl, hv, hv', h1, h2, z1, z2, d1, d2, fun r c g H1 wc wg q1 q2 nr nc ng ncg s1 er ec Rc eg Rg m1 o1 m2 o2 => ?_⟩
    have hp1 := s1 _ _ hp
    refine ⟨_, rfl, p, C, dx, _, rfl, hp1, cl, N.c, (show 3 < 1000 by decide), ?_⟩
    refine ⟨_, rfl, _, rfl, p, C, dx, _, rfl, upd_same, cl, N.k, (by rw [put_c]; show 3 < 1000; decide), ?_⟩
    have sf : Same (rm p H1) (upd (upd H1 p (.ins C dx (putF "changed" (.ref r) (fl room v (.ref b0))))) p (.ins C dx (putF "kept" v' (putF "changed" (.ref r) (fl room v (.ref b0)))))) := fun x o hx => by
      have hxp : x ≠ p := fun z => by rw [z, rm_self] at hx; cases hx
      rw [rm_ne hxp] at hx
      rw [upd_ne hxp, upd_ne hxp]; exact hx
    have k := Kd.rm hp1 sf
    refine q _ _ _ (rm_trans (rm_same.trans s1) sf) ⟨q1, q2, m1, o1, m2, o2, rfl, rfl⟩ ⟨dx, r, v', ?_, rep_kd k (hv'.mono s1), Ends2.kd k ⟨c, g, wc, wg, er, ec, Rc, eg, Rg⟩⟩
    rw [upd_same, put_c, put_k]
theorem ok_putM {f C cH cF : Addr} (F : FdM K C "put" "Shelf.put" s_Shelf_put f) (cl : Cls K C) (N : Nx K C) (T : Tx K mg) (C_Shelf_keep : CalM P w K mg base CX0 87 C "keep" (spKeep C)) (C_put_trees : Cal P w K mg base (CXE P w) 83 "put_trees" (spPutE cH cF)) : CalM P w K mg base (CXE P w) 88 C "put" (spPutM C cH) := by
  refine F.calE cl sc_Shelf_put (fun _ _ _ _ _ _ us hl => L3.bind2 (fun _ _ => rfl) us hl) (fun vs H Q E h => ?_) (fun cdv A outer s H vs Q E hr h => ?_)
  · obtain ⟨p, k, room, t, x, y, rfl, _⟩ := h; rfl
  · obtain ⟨p, k, room, t, x, y, rfl, S, M, h1, h2⟩ := h
    obtain ⟨dx, b0, v, hp, hv, _⟩ := S.ob
    have hz := M.z
    refine ⟨_, (bone (sexpr (qmeth C_Shelf_keep (hr.mono (by lia)) pass0 (qv 0) (qcons (qF C_put_trees (hr.mono (by lia)) (passE fun _ _ h => h) rfl (qcons (qfld K (qv 0)) (qcons (qv 1) qnil))) qnil)))), ?_⟩
    refine ⟨_, rfl, p, dx, _, rfl, hp, fl_no _ _ _ (by decide +kernel), _, rfl, p, C, dx, _, _, rfl, hp, cl, N.k, fl_kept _ _ _, _, rfl, v, k, t, rfl, hv, M.ht, by lia, M.o, h1, (fun _ h => absurd h (by lia)), fun hk _ r H1 s1 g1 => ?_⟩
    have hi := Tr.ins_size k t
    have ho := Tr.ins_ord k t none none M.o hk (fun _ z => nomatch z) (fun _ z => nomatch z)
    have hh := Tr.ht_size (t.ins k)
    refine ⟨p, r, room, t, t.ins k, x, y, rfl, S.same s1, g1, by lia, by lia, M.ht, by lia, M.nd, (ord_rise _ _ _ ho).imp fun h => Int.ne_of_lt h, fun H2 x' y' s2 c2 S2 => ?_⟩
    exact h2 hk H2 x' y' (rm_trans (rm_same.trans s1) s2) c2 S2
theorem ok_takeM {f C cN : Addr} (F : FdM K C "take" "Shelf.take" s_Shelf_take f) (cl : Cls K C) (N : Nx K C) (T : Tx K mg) (C_Shelf_keep : CalM P w K mg base CX0 87 C "keep" (spKeep C)) (C_taken : Cal P w K mg base (CXE P w) 164 "taken" (spTaken cN)) : CalM P w K mg base (CXE P w) 165 C "take" (spTakeM C cN) := by
  refine F.calE cl sc_Shelf_take (fun _ _ _ _ _ _ us hl => L3.bind2 (fun _ _ => rfl) us hl) (fun vs H Q E h => ?_) (fun cdv A outer s H vs Q E hr h => ?_)
  · obtain ⟨p, k, room, t, x, y, rfl, _⟩ := h; rfl
  · obtain ⟨p, k, room, t, x, y, rfl, S, M, h1, h2⟩ := h
    obtain ⟨dx, b0, v, hp, hv, _⟩ := S.ob
    have hz := M.z
    refine ⟨_, (bone (sexpr (qmeth C_Shelf_keep (hr.mono (by lia)) pass0 (qv 0) (qcons (qF C_taken (hr.mono (by lia)) (passE fun _ _ h => h) rfl (qcons (qfld K (qv 0)) (qcons (qv 1) qnil))) qnil)))), ?_⟩
    refine ⟨_, rfl, p, dx, _, rfl, hp, fl_no _ _ _ (by decide +kernel), _, rfl, p, C, dx, _, _, rfl, hp, cl, N.k, fl_kept _ _ _, _, rfl, v, k, t, rfl, hv, M.ht, by lia, M.o, ?_⟩
    by_cases hk : k ∈ t.keys
    · refine .inl ⟨hk, fun r H1 s1 g1 => ?_⟩
      have hi := del_ht t k
      have ho := del_ord t k none none M.o
      have hh := Tr.ht_size (del t k)
      refine ⟨p, r, room, t, del t k, x, y, rfl, S.same s1, g1, by lia, by lia, M.ht, by lia, M.nd, (ord_rise _ _ _ ho).imp fun h => Int.ne_of_lt h, fun H2 x' y' s2 c2 S2 => ?_⟩
      exact h2 hk H2 x' y' (rm_trans (rm_same.trans s1) s2) c2 S2
    · exact .inr ⟨hk, h1 hk⟩
theorem ok_treeM {f C : Addr} (F : FdM K C "tree" "Shelf.tree" s_Shelf_tree f) (cl : Cls K C) (N : Nx K C) (T : Tx K mg) : CalM P w K mg base CX0 1 C "tree" (spTreeM C) := by
  refine F.cal cl sc_Shelf_tree (fun _ _ _ _ _ _ us hl => L3.bind1 (fun _ => rfl) us hl) (fun vs H Q E h => ?_) (fun cdv A outer s H vs Q E hr h => ?_)
  · obtain ⟨p, room, t, x, y, rfl, _⟩ := h; rfl
  · obtain ⟨p, room, t, x, y, rfl, S, q⟩ := h
    obtain ⟨dx, b0, v, hp, hv, _⟩ := S.ob
    refine ⟨_, (bone (sret (qfld K (qv 0)))), ?_⟩
    exact ⟨_, rfl, p, C, dx, _, _, rfl, hp, cl, N.k, fl_kept _ _ _, q v hv⟩
theorem ok_tableM {f C : Addr} (F : FdM K C "table" "Shelf.table" s_Shelf_table f) (cl : Cls K C) (N : Nx K C) (T : Tx K mg) (C_marks : Cal P w K mg base CX0 84 "marks" spMarks) : CalM P w K mg base CX0 85 C "table" (spTableM C) := by
  refine F.cal cl sc_Shelf_table (fun _ _ _ _ _ _ us hl => L3.bind1 (fun _ => rfl) us hl) (fun vs H Q E h => ?_) (fun cdv A outer s H vs Q E hr h => ?_)
  · obtain ⟨p, room, t, x, y, rfl, _⟩ := h; rfl
  · obtain ⟨p, room, t, x, y, rfl, S, M, q⟩ := h
    obtain ⟨dx, b0, v, hp, hv, _⟩ := S.ob
    have hz := M.z
    refine ⟨_, (bone (sret (qF C_marks (hr.mono (by lia)) pass0 rfl (qcons (qfld K (qv 0)) (qcons (qfld K (qv 0)) qnil))))), ?_⟩
    exact ⟨_, rfl, p, C, dx, _, _, rfl, hp, cl, N.k, fl_kept _ _ _, _, rfl, p, C, dx, _, _, rfl, hp, cl, N.r, fl_room _ _ _, v, t, room, rfl, hv, M.ht, by lia, M.nd, fun r H1 ws _ s1 e1 g1 => q r H1 ws s1 e1 g1⟩
theorem ok_layM {f C : Addr} (F : FdM K C "layout" "Shelf.layout" s_Shelf_layout f) (cl : Cls K C) (N : Nx K C) (T : Tx K mg) (C_by_marks : Cal P w K mg base CX0 84 "by_marks" spBy) : CalM P w K mg base CX0 85 C "layout" (spLayM C) := by
  refine F.cal cl sc_Shelf_layout (fun _ _ _ _ _ _ us hl => L3.bind1 (fun _ => rfl) us hl) (fun vs H Q E h => ?_) (fun cdv A outer s H vs Q E hr h => ?_)
  · obtain ⟨p, room, t, x, y, rfl, _⟩ := h; rfl
  · obtain ⟨p, room, t, x, y, rfl, S, M, q⟩ := h
    obtain ⟨dx, b0, v, hp, hv, _⟩ := S.ob
    have hz := M.z
    refine ⟨_, (bone (sret (qF C_by_marks (hr.mono (by lia)) pass0 rfl (qcons (qfld K (qv 0)) (qcons (qfld K (qv 0)) qnil))))), ?_⟩
    exact ⟨_, rfl, p, C, dx, _, _, rfl, hp, cl, N.k, fl_kept _ _ _, _, rfl, p, C, dx, _, _, rfl, hp, cl, N.r, fl_room _ _ _, v, t, room, rfl, hv, M.ht, by lia, M.nd, fun r H1 bs L _ s1 e1 g1 _ _ h3 h4 => q r H1 bs L s1 e1 g1 h3 h4⟩
theorem ok_worstM {f C : Addr} (F : FdM K C "worst" "Shelf.worst" s_Shelf_worst f) (cl : Cls K C) (N : Nx K C) (T : Tx K mg) (C_worst_by_marks : Cal P w K mg base CX0 83 "worst_by_marks" spWbm) : CalM P w K mg base CX0 84 C "worst" (spWorstM C) := by
  refine F.cal cl sc_Shelf_worst (fun _ _ _ _ _ _ us hl => L3.bind1 (fun _ => rfl) us hl) (fun vs H Q E h => ?_) (fun cdv A outer s H vs Q E hr h => ?_)
  · obtain ⟨p, room, t, x, y, rfl, _⟩ := h; rfl
  · obtain ⟨p, room, t, x, y, rfl, S, M, q⟩ := h
    obtain ⟨dx, b0, v, hp, hv, _⟩ := S.ob
    have hz := M.z
    refine ⟨_, (bone (sret (qF C_worst_by_marks (hr.mono (by lia)) pass0 rfl (qcons (qfld K (qv 0)) (qcons (qfld K (qv 0)) qnil))))), ?_⟩
    exact ⟨_, rfl, p, C, dx, _, _, rfl, hp, cl, N.k, fl_kept _ _ _, _, rfl, p, C, dx, _, _, rfl, hp, cl, N.r, fl_room _ _ _, v, t, room, rfl, hv, M.ht, by lia, M.nd, fun H1 s1 => q H1 s1⟩
theorem ok_hasM {f C : Addr} (F : FdM K C "has" "Shelf.has" s_Shelf_has f) (cl : Cls K C) (N : Nx K C) (T : Tx K mg) (C_knot_at : Cal P w K mg base CX0 2 "knot_at" spAt) : CalM P w K mg base CX0 3 C "has" (spHasM C) := by
  refine F.cal cl sc_Shelf_has (fun _ _ _ _ _ _ us hl => L3.bind2 (fun _ _ => rfl) us hl) (fun vs H Q E h => ?_) (fun cdv A outer s H vs Q E hr h => ?_)
  · obtain ⟨p, k, room, t, x, y, rfl, _⟩ := h; rfl
  · obtain ⟨p, k, room, t, x, y, rfl, S, M, q⟩ := h
    obtain ⟨dx, b0, v, hp, hv, _⟩ := S.ob
    refine ⟨_, (bone (sret (qcmp rIsNot (qF C_knot_at (hr.mono (by lia)) pass0 rfl (qcons (qfld K (qv 0)) (qcons (qv 1) qnil))) qnon (nomark _)))), ?_⟩
    refine ⟨_, rfl, p, C, dx, _, _, rfl, hp, cl, N.k, fl_kept _ _ _, _, rfl, v, t, k, rfl, hv, fun v' g' => ?_⟩
    by_cases hk : k ∈ t.keys
    · have hne := at_ne k t _ _ M.o hk
      rw [decide_eq_true hk] at q
      cases ht' : at_ k t with
      | nil => exact absurd ht' hne
      | node l x r =>
        rw [ht'] at g'
        obtain ⟨a, vl, vr, rfl, ea, _, _⟩ := rep_node g'
        exact ⟨rfl, q⟩
    · have hnil : at_ k t = .nil := Classical.byContradiction fun z => hk (at_mem z)
      rw [decide_eq_false hk] at q
      rw [hnil] at g'
      cases rep_nil g'
      exact ⟨rfl, q⟩
theorem ok_lastM {f C : Addr} (F : FdM K C "last" "Shelf.last" s_Shelf_last f) (cl : Cls K C) (N : Nx K C) (T : Tx K mg) : CalM P w K mg base CX0 1 C "last" (spLastM C) := by
  refine F.cal cl sc_Shelf_last (fun _ _ _ _ _ _ us hl => L3.bind1 (fun _ => rfl) us hl) (fun vs H Q E h => ?_) (fun cdv A outer s H vs Q E hr h => ?_)
  · obtain ⟨p, room, t, x, y, rfl, _⟩ := h; rfl
  · obtain ⟨p, room, t, x, y, rfl, S, hx, hy, q⟩ := h
    obtain ⟨dx, b0, v, hp, hv, c, g, wc, wg, eb, ec, Rc, eg, Rg⟩ := S.ob
    have lc := Rc.length
    have lg := Rg.length
    rw [List.length_map] at lc lg
    refine ⟨_, (bone (sret (qtup (qcons (qTy (fList K) rfl T.b_list bt_list (qcons (qix (xIx K) (qfld K (qv 0)) qint (fun _ _ => rfl)) qnil)) (qcons (qTy (fList K) rfl T.b_list bt_list (qcons (qix (xIx K) (qfld K (qv 0)) qint (fun _ _ => rfl)) qnil)) qnil))))), ?_⟩
    refine ⟨_, rfl, p, C, dx, _, _, rfl, hp, cl, N.c, fl_ch _ _ _, b0, _, 0, _, rfl, rfl, .inr (SqT.of eb), atI_nat (j := 0) rfl, ?_⟩
    refine ⟨c, wc, rfl, .inl (SqL.of ec), fun c1 H1 n1 s1 e1 _ => ?_⟩
    refine ⟨_, rfl, p, C, dx, _, _, rfl, s1 _ _ hp, cl, N.c, fl_ch _ _ _, b0, _, 1, _, rfl, rfl, .inr (SqT.of (s1 _ _ eb)), atI_nat (j := 1) rfl, g, wg, rfl, .inl (SqL.of (s1 _ _ eg)), fun g1 H2 n2 s2 e2 _ => ?_⟩
    refine ⟨(show 2 ≤ sizeLine by decide), fun b H3 n3 s3 e3 _ => ?_⟩
    have s13 := s1.trans (s2.trans s3)
    exact q b H3 s13 ⟨c1, g1, wc, wg, e3, (s2.trans s3) _ _ e1, Rc.mono s13, s3 _ _ e2, Rg.mono s13⟩
end
end K41C
namespace K41C
open PySem L2 L3 K41
structure Er (K : PySem.W.Frag) (mg : Str → Option Value) (cL cH cF cN : Addr) : Prop where
  eL : ErrK K mg "LeafError" cL
  eH : ErrK K mg "There" cH
  eF : ErrK K mg "Full" cF
  eN : ErrK K mg "NotThere" cN
  xH : PySem.W.exmOne K (.ref cH) (.ref cL) = some true
  xN : PySem.W.exmOne K (.ref cN) (.ref cL) = some true
noncomputable def Dd (room way k : Int) (t : Tr) (x y : List (Int × Int)) (b : Bool) (t' : Tr) (x' y' : List (Int × Int)) : Prop :=
  (b = false ∧ t' = t ∧ x' = x ∧ y' = y ∧ ((way = 0 ∧ k ∈ t.keys) ∨ (way = 1 ∧ k ∉ t.keys))) ∨
  (b = true ∧ ((way = 0 ∧ k ∉ t.keys ∧ t' = t.ins k) ∨ (way = 1 ∧ k ∈ t.keys ∧ t' = del t k)) ∧ Chg room t t' x' y')
noncomputable def spDeed (C : Addr) : Sp := fun vs H Q _ => ∃ (p : Addr) (way k room : Int) (t : Tr) (x y : List (Int × Int)), vs = [.ref p, .int way, .int k] ∧ ShA C H p room t x y ∧ Sm t ∧ (way = 0 ∨ way = 1) ∧
  ∀ b H' t' x' y', Same (rm p H) H' → ShA C H' p room t' x' y' → Dd room way k t x y b t' x' y' → Q (.bl b) H'
noncomputable def spStands (C : Addr) : Sp := fun vs H Q _ => ∃ (p : Addr) (room : Int) (t : Tr) (x y : List (Int × Int)), vs = [.ref p, .int room] ∧ ShA C H p room t x y ∧ Sm t ∧ ∀ H', Same H H' → Q (.bl true) H'
theorem filter_key : ∀ {tb : Tab} {k : Int} {m : Int × Int}, (tb.map (·.1)).Nodup → (k, m) ∈ tb → tb.filter (fun e => decide (e.1 = k)) = [(k, m)]
  | [], _, _, _, h => by cases h
  | e :: tb, k, m, hn, h => by
    obtain ⟨h1, h2⟩ := List.nodup_cons.mp (show (e.1 :: tb.map (·.1)).Nodup from hn)
    rcases List.mem_cons.mp h with rfl | h
    · rw [List.filter_cons_of_pos (by simp)]
      rw [List.filter_eq_nil_iff.mpr fun x hx => by
        simp only [decide_eq_true_eq]
        exact fun z => h1 (List.mem_map.mpr ⟨x, hx, z⟩)]
    · rw [List.filter_cons_of_neg (by
        simp only [decide_eq_true_eq]
        exact fun z => h1 (List.mem_map.mpr ⟨_, h, z.symm⟩))]
      exact filter_key h2 h
theorem eq_tr {H : Hp} {t : Tr} {v u : V} {Q : VK} (hv : Rep H v t.d) (hu : Rep H u t.d) (hd : t.ht ≤ 140) (h : Q (.bl true) H) : rEqG 150 v u H Q := by
  have hdp : t.d.dep ≤ 140 := Nat.le_trans (Tr.dep_d t) hd
  cases t with
  | nil =>
    cases rep_nil hv
    cases rep_nil hu
    refine ⟨.non, .non, .non, .non, rfl, rfl, Nat.zero_le _, ?_⟩
    rw [D.eqv_refl]; exact h
  | node l k r =>
    obtain ⟨a, _, _, rfl, _⟩ := rep_node hv
    obtain ⟨b, _, _, rfl, _⟩ := rep_node hu
    exact eq_same hv hu (pure_tr _) hdp h
section
variable {P : Program} {w : World} {K : PySem.W.Frag} {mg : Str → Option Value} {base : Heap}
theorem ok_deed {f C cL cH cF cN : Addr} (F : Fd K mg "_law_deed" s_law_deed f) (T : Tx K mg) (R : Er K mg cL cH cF cN) (C_Shelf_put : CalM P w K mg base (CXE P w) 88 C "put" (spPutM C cH)) (C_Shelf_take : CalM P w K mg base (CXE P w) 165 C "take" (spTakeM C cN)) : Cal P w K mg base CX0 166 "_law_deed" (spDeed C) := by
  refine F.cal sc_law_deed (fun _ _ _ _ _ _ us hl => L3.bind3 (fun _ _ _ => rfl) us hl) (fun vs H Q E h => ?_) (fun cdv A outer s H vs Q E hr h => ?_)
  · obtain ⟨p, way, k, room, t, x, y, rfl, _⟩ := h; rfl
  · obtain ⟨p, way, k, room, t, x, y, rfl, S, M, hw, q⟩ := h
    have R_LeafError := R.eL
    obtain ⟨dx, b0, v, hp, _⟩ := S.ob
    refine ⟨_, (bcons (sset (i := 3) sc_law_deed.nd rfl (by first | exact Or.inl rfl | exact Or.inr rfl) qbl)
      (bcons (stryN K (xif (tcmp (rEqq hr) (qv 1) qint (nomark _)) (xmeth C_Shelf_put (hr.mono (by lia)) (qv 0) (qcons (qv 2) qnil)) (xmeth C_Shelf_take (hr.mono (by lia)) (qv 0) (qcons (qv 2) qnil))) rfl R_LeafError.at_ rfl rfl (fun _ => (bone (sset (i := 3) sc_law_deed.nd rfl (by first | exact Or.inl rfl | exact Or.inr rfl) qbl))))
      (bone (sret (qv 3))))), ?_⟩
    rcases hw with rfl | rfl
    · refine ⟨_, rfl, _, rfl, ?_⟩
      refine iteT ?_
      refine ⟨_, rfl, p, dx, _, rfl, hp, fl_no _ _ _ (by decide +kernel), _, rfl, p, k, room, t, x, y, rfl, S, M, fun hk => ⟨R.xH, ?_⟩, fun hk H' x' y' s' c' S' => ?_⟩
      · exact ⟨_, rfl, q false H t x y rm_same S (.inl ⟨rfl, rfl, rfl, rfl, .inl ⟨rfl, hk⟩⟩)⟩
      · exact ⟨_, rfl, q true H' _ x' y' s' S' (.inr ⟨rfl, .inl ⟨rfl, hk, rfl⟩, c'⟩)⟩
    · refine ⟨_, rfl, _, rfl, ?_⟩
      refine iteF ?_
      refine ⟨_, rfl, p, dx, _, rfl, hp, fl_no _ _ _ (by decide +kernel), _, rfl, p, k, room, t, x, y, rfl, S, M, fun hk => ⟨R.xN, ?_⟩, fun hk H' x' y' s' c' S' => ?_⟩
      · exact ⟨_, rfl, q false H t x y rm_same S (.inl ⟨rfl, rfl, rfl, rfl, .inr ⟨rfl, hk⟩⟩)⟩
      · exact ⟨_, rfl, q true H' _ x' y' s' S' (.inr ⟨rfl, .inr ⟨rfl, hk, rfl⟩, c'⟩)⟩
theorem ok_stands {f C : Addr} (F : Fd K mg "_law_stands" s_law_stands f) (T : Tx K mg) (C_Shelf_tree : CalM P w K mg base CX0 1 C "tree" (spTreeM C)) (C_Shelf_table : CalM P w K mg base CX0 85 C "table" (spTableM C)) (C_Shelf_layout : CalM P w K mg base CX0 85 C "layout" (spLayM C)) (C_Shelf_worst : CalM P w K mg base CX0 84 C "worst" (spWorstM C)) (C_marks : Cal P w K mg base CX0 84 "marks" spMarks) (C_by_marks : Cal P w K mg base CX0 84 "by_marks" spBy) : Cal P w K mg base CX0 86 "_law_stands" (spStands C) := by
  refine F.cal sc_law_stands (fun _ _ _ _ _ _ us hl => L3.bind2 (fun _ _ => rfl) us hl) (fun vs H Q E h => ?_) (fun cdv A outer s H vs Q E hr h => ?_)
  · obtain ⟨p, room, t, x, y, rfl, _⟩ := h; rfl
  · obtain ⟨p, room, t, x, y, rfl, S, M, q⟩ := h
    obtain ⟨dx, b0, v0, hp, _⟩ := S.ob
    have hz := M.z
    have hik := Tr.io_keys room t
    have hkl := Tr.keys_length t
    have hil : (t.io room).length = t.size := by rw [← hkl, ← hik, List.length_map]
    refine split 4 (fun σ' H' => ∃ (v : V) (r : Addr) (ws : List V), σ' = [some (.ref p), some (.int room), some v, some (.ref r), some (.int (t.mark room).1)] ∧ Same H H' ∧ Rep H' v t.d ∧ H' r = some (.lst ws) ∧ Reps H' ws ((t.io room).map rowD)) ?h2 ?h1
    case h2 =>
      refine ⟨_, (bone (sret (qand K (qcmp (rEqq hr) (qmeth0 C_Shelf_table (hr.mono (by lia)) pass0 (qv 0)) (qv 3) (nomark _)) (qand K (qcmp (rEqq hr) (qmeth0 C_Shelf_layout (hr.mono (by lia)) pass0 (qv 0)) (qF C_by_marks (hr.mono (by lia)) pass0 rfl (qcons (qv 2) (qcons (qv 1) qnil))) (nomark _)) (qone (qcmp (rEqq hr) (qmeth0 C_Shelf_worst (hr.mono (by lia)) pass0 (qv 0)) (qv 4) (nomark _))))))), ?_⟩
      rintro σ' H1 ⟨v, r, ws, rfl, s1, hv, er, gr⟩
      refine ⟨_, rfl, p, dx, _, rfl, s1 _ _ hp, fl_no _ _ _ (by decide +kernel), p, room, t, x, y, rfl, S.same s1, M, fun r2 H2 ws2 s2 e2 g2 => ?_⟩
      refine ⟨_, rfl, eq_same (.lst e2 g2) (.lst (s2 _ _ er) (gr.mono s2)) (by rw [D.pure]; exact pures_map (fun m => rfl) _) (Nat.le_trans (Nat.succ_le_succ (deps_map (n := 1) (fun m => Nat.le_refl _) _)) (by decide)) ?_⟩
      refine ⟨_, rfl, ?_⟩
      refine iteT ?_
      have s02 := s1.trans s2
      refine ⟨_, rfl, p, dx, _, rfl, s02 _ _ hp, fl_no _ _ _ (by decide +kernel), p, room, t, x, y, rfl, S.same s02, M, fun r3 H3 b3 L3 s3 e3 p3 m3 o3 => ?_⟩
      refine ⟨_, rfl, _, rfl, v, t, room, rfl, hv.mono (s2.trans s3), M.ht, by lia, M.nd, fun r4 H4 b4 L4 _ s4 e4 p4 _ _ m4 o4 => ?_⟩
      have eL : L4 = L3 := lex_one (m4.trans m3.symm) o4 o3
      subst eL
      refine eq_same ((p3.rep e3).mono s4) (p4.rep e4) (Ls_pure _) (Ls_dep _) ?_
      refine ⟨_, rfl, ?_⟩
      refine iteT ?_
      have s04 := s02.trans (s3.trans s4)
      refine ⟨_, rfl, p, dx, _, rfl, s04 _ _ hp, fl_no _ _ _ (by decide +kernel), p, room, t, x, y, rfl, S.same s04, M, fun H5 s5 => ?_⟩
      refine ⟨_, rfl, ?_⟩
      show Q (.bl (decide ((t.mark room).1 = (t.mark room).1))) H5
      rw [decide_eq_true rfl]
      exact q H5 (s04.trans s5)
    case h1 =>
      intro u pu hu
      refine ⟨_, (bcons (sset (i := 2) sc_law_stands.nd rfl (by first | exact Or.inl rfl | exact Or.inr rfl) (qmeth0 C_Shelf_tree (hr.mono (by lia)) pass0 (qv 0)))
      (bcons (sset (i := 3) sc_law_stands.nd rfl (by first | exact Or.inl rfl | exact Or.inr rfl) (qF C_marks (hr.mono (by lia)) pass0 rfl (qcons (qv 2) (qcons (qv 1) qnil))))
      (bcons (sset (i := 4) sc_law_stands.nd rfl (by first | exact Or.inl rfl | exact Or.inr rfl) qint)
      (bcons (sif (tcmp rIsNot (qv 2) qnon (nomark _)) (bone (sset (i := 4) sc_law_stands.nd rfl (by first | exact Or.inl rfl | exact Or.inr rfl) (qix (xIx K) (qcomp (sc := defScope s_law_stands) (NX := ["_law_shelf", "_law_room", "_law_tree", "_law_table", "_law_level"]) ["_law_row", "_law_tree"] [none, some 2] rfl (iseq K (qv 3)) (fun _ _ _ => (gname (i := 0) (show (["_law_row", "_law_tree"] : List Str).Nodup by decide +kernel) rfl (by first | exact Or.inl rfl | exact Or.inr rfl))) (fun _ _ _ => (csone (tcmp (rEqq hr) (qix (xIx K) (qv 0) qint (fun _ _ => rfl)) (qix (xIx K) (qv 1) qint (fun _ _ => rfl)) (nomark _)))) (fun _ _ _ => (qix (xIx K) (qv 0) qint (fun _ _ => rfl))) rfl rfl (by decide +kernel)) qint (fun _ _ => rfl)))) bnil)
      pu)))), ?_⟩
      refine ⟨_, rfl, p, dx, _, rfl, hp, fl_no _ _ _ (by decide +kernel), p, room, t, x, y, rfl, S, fun v hv => ?_⟩
      refine ⟨_, rfl, _, rfl, v, t, room, rfl, hv, M.ht, by lia, M.nd, fun r H1 ws n1 s1 e1 g1 => ?_⟩
      cases t with
      | nil =>
        cases rep_nil hv
        refine ⟨_, rfl, rfl, _, rfl, ?_⟩
        refine iteF ?_
        exact hu _ _ ⟨_, r, ws, rfl, s1, .non, e1, g1⟩
      | node l k rr =>
        obtain ⟨a, vl, vr, rfl, ea, hl, hr'⟩ := rep_node hv
        refine ⟨_, rfl, rfl, _, rfl, ?_⟩
        refine iteT ?_
        have ea1 := s1 _ _ ea
        have hwl := g1.length
        rw [List.length_map, hil] at hwl
        refine ⟨_, rfl, r, rfl, .inl ⟨⟨_, SqL.of e1⟩, fun acc ha => ?_⟩⟩
        refine comp_list (xs := ws) (fun i ys σ H' => ∃ z, σ = [z, some (.ref a)] ∧ Same H1 H' ∧ H' acc = some (.lst ys) ∧ ys = ((((Tr.node l k rr).io room).take i).filter (fun e => decide (e.1 = k))).map (fun e => V.int e.2.1)) ⟨none, rfl, same_new ha, upd_same, rfl⟩ (fun i ys σ H' hh => by obtain ⟨_, _, s', _⟩ := hh; exact SqL.of (s' _ _ e1)) ?_ ?_
        · rintro i ys z σ G hy hi ⟨z0, rfl, sG, eG, rfl⟩
          obtain ⟨m, hm, gm⟩ := reps_map g1 hy
          obtain ⟨b, rfl, eb⟩ := rep_row gm
          have hfl := List.length_filter_le (fun e : Int × Int × Int => decide (e.1 = k)) (((Tr.node l k rr).io room).take i)
          rw [List.length_take] at hfl
          refine ⟨_, rfl, b, _, 0, _, rfl, rfl, .inr (SqT.of (sG _ _ eb)), atI_nat (j := 0) rfl, _, rfl, a, _, 1, _, rfl, rfl, .inr (SqT.of (sG _ _ ea1)), atI_nat (j := 1) rfl, _, rfl, ?_⟩
          have htk : (((Tr.node l k rr).io room).take (i + 1)).filter (fun e => decide (e.1 = k)) = (((Tr.node l k rr).io room).take i).filter (fun e => decide (e.1 = k)) ++ (if m.1 = k then [m] else []) := by
            rw [List.take_add_one, hm, List.filter_append]
            congr 1
            by_cases h : m.1 = k <;> simp [h]
          refine ite2 (fun h => ?_) (fun h => ?_)
          · have h : m.1 = k := of_decide_eq_true h
            rw [if_pos h] at htk
            refine ⟨_, rfl, b, _, 1, _, rfl, rfl, .inr (SqT.of (sG _ _ eb)), atI_nat (j := 1) rfl, ?_⟩
            refine cpost eG (sizeBig (by rw [List.length_map]; lia)) hi ?_
            exact ⟨_, rfl, same_upd sG ha, upd_same, by rw [htk, List.map_append]; rfl⟩
          · have h : ¬ m.1 = k := fun z => h (decide_eq_true z)
            rw [if_neg h, List.append_nil] at htk
            refine cskip hi (ys := ((((Tr.node l k rr).io room).take i).filter (fun e => decide (e.1 = k))).map (fun e => V.int e.2.1)) ?_
            exact ⟨_, rfl, sG, eG, by rw [htk]⟩
        · rintro ys σ H2 ⟨z0, rfl, s2, e2, rfl⟩
          rw [List.take_of_length_le (by lia), filter_key (k := k) (m := (Tr.node l k rr).mark room) (by rw [hik]; exact M.nd) (by simp [Tr.io])] at e2
          refine ⟨acc, _, 0, _, rfl, rfl, .inl (SqL.of e2), atI_nat (j := 0) rfl, ?_⟩
          exact hu _ _ ⟨_, r, ws, rfl, s1.trans s2, hv.mono (s1.trans s2), s2 _ _ e1, g1.mono s2⟩
end
end K41C
namespace K41C
open PySem L2 L3 K41
theorem tS_fst (room : Int) : ∀ (t : Tr) (p : Int × Int), p ∈ tS room t → p.1 ∈ t.keys
  | .nil, _, h => by cases h
  | .node l k r, p, h => by
    simp only [tS, List.mem_append] at h
    simp only [Tr.keys, List.mem_append, List.mem_singleton]
    rcases h with (h | h) | h
    · exact .inl (.inl (tS_fst room l p h))
    · exact .inr (tS_fst room r p h)
    · exact .inl (.inr (ownS_up h))
theorem ownS_nd {room : Int} {l r : Tr} {k : Int} (h : ∀ a ∈ l.keys, a ∉ r.keys) : (ownS room l k r).Nodup := by
  unfold ownS
  cases l with
  | nil =>
    cases r with
    | nil => exact List.nodup_nil
    | node a b c =>
      simp only [Tr.sub, List.nil_append, List.filter_cons, List.filter_nil]
      split <;> simp [Tr.key?]
  | node a b c =>
    cases r with
    | nil =>
      simp only [Tr.sub, List.append_nil, List.filter_cons, List.filter_nil]
      split <;> simp [Tr.key?]
    | node d e f =>
      have hbe : b ≠ e := fun z => h b (by simp [Tr.keys]) (by simp [Tr.keys, z])
      simp only [Tr.sub, List.cons_append, List.nil_append, List.filter_cons, List.filter_nil]
      split <;> split <;> simp [Tr.key?, hbe]
theorem tS_nd (room : Int) : ∀ t : Tr, t.keys.Nodup → (tS room t).Nodup
  | .nil, _ => List.nodup_nil
  | .node l k r, h => by
    rw [Tr.keys, List.append_assoc, List.nodup_append] at h
    obtain ⟨h1, h2, h3⟩ := h
    obtain ⟨h4, h5⟩ := List.nodup_cons.mp (show (k :: r.keys).Nodup from h2)
    have hlr : ∀ a ∈ l.keys, a ∉ r.keys := fun a ha hr => h3 a ha a (List.mem_append_right _ hr) rfl
    rw [tS, List.append_assoc, List.nodup_append, List.nodup_append]
    refine ⟨tS_nd room l h1, ⟨tS_nd room r h5, ownS_nd hlr, fun a ha b hb z => ?_⟩, fun a ha b hb z => ?_⟩
    · have e1 := tS_fst room r a ha
      rw [z, ownS_up hb] at e1
      exact h4 e1
    · have e1 := tS_fst room l a ha
      rcases List.mem_append.mp hb with hb | hb
      · have e2 := tS_fst room r b hb
        rw [z] at e1
        exact hlr _ e1 e2
      · rw [z, ownS_up hb] at e1
        exact h3 k e1 k (by simp) rfl
theorem led_perm {q1 q2 : List (Int × Int)} (n1 : q1.Nodup) (n2 : q2.Nodup) : (q1.filter (nin (q1.filter (nin q2))) ++ q2.filter (nin q1)).Perm q2 := by
  have mem : ∀ {q : List (Int × Int)} {p : Int × Int}, nin q p = true ↔ p ∉ q := fun {q p} => by simp [nin]
  refine (List.perm_ext_iff_of_nodup ?_ n2).mpr fun p => ?_
  · refine List.nodup_append.mpr ⟨n1.filter _, n2.filter _, fun a ha b hb z => ?_⟩
    subst z
    exact (mem.mp (List.mem_filter.mp hb).2) (List.mem_filter.mp ha).1
  · rw [List.mem_append, List.mem_filter, List.mem_filter, mem, mem, List.mem_filter, mem]
    by_cases h1 : p ∈ q1 <;> by_cases h2 : p ∈ q2 <;> simp [h1, h2]
noncomputable def spLed : Sp := fun vs H Q _ => ∃ (bb be bh : Addr) (wb wh : List V) (q1 q2 : List (Int × Int)), vs = [.ref bb, .ref be, .ref bh] ∧ H bb = some (.lst wb) ∧ Reps H wb (q1.map pairD) ∧ Ends2 H be (q2.filter (nin q1)) (q1.filter (nin q2)) ∧ H bh = some (.lst wh) ∧ Reps H wh (q2.map pairD) ∧
  q1.Nodup ∧ q2.Nodup ∧ q1.length ≤ 60 ∧ q2.length ≤ 60 ∧ Rises q2 ∧ ∀ H', Same H H' → Q (.bl true) H'
section
variable {P : Program} {w : World} {K : PySem.W.Frag} {mg : Str → Option Value} {base : Heap}
theorem ok_led {f : Addr} (F : Fd K mg "_law_led" s_law_led f) (T : Tx K mg) : Cal P w K mg base CX0 1 "_law_led" spLed := by
  refine F.cal sc_law_led (fun _ _ _ _ _ _ us hl => L3.bind3 (fun _ _ _ => rfl) us hl) (fun vs H Q E h => ?_) (fun cdv A outer s H vs Q E hr h => ?_)
  · obtain ⟨bb, be, bh, wb, wh, q1, q2, rfl, _⟩ := h; rfl
  · obtain ⟨bb, be, bh, wb, wh, q1, q2, rfl, eb, Rb, ⟨c, g, wc, wg, ee, ec, Rc, eg, Rg⟩, eh, Rh, n1, n2, l1, l2, o2, q⟩ := h
    have mem : ∀ {q : List (Int × Int)} {p : Int × Int}, nin q p = true ↔ p ∉ q := fun {q p} => by simp [nin]
    have lc := Rc.length
    have lg := Rg.length
    have lb := Rb.length
    rw [List.length_map] at lc lg lb
    have fc := List.length_filter_le (nin q1) q2
    have fg := List.length_filter_le (nin q2) q1
    refine ⟨_, (bcons (sasg (qv 1) (gtup (n := 2) K rfl (gscons (gname (i := 3) sc_law_led.nd rfl (by first | exact Or.inl rfl | exact Or.inr rfl)) (gscons (gname (i := 4) sc_law_led.nd rfl (by first | exact Or.inl rfl | exact Or.inr rfl)) gsnil))))
      (bcons (sif (QW.tst (wor (tcmp (rNeNil hr) (qcomp (sc := defScope s_law_led) (NX := ["_law_before", "_law_ends", "_law_behind", "_law_came", "_law_went"]) ["_law_tie", "_law_before"] [none, some 0] rfl (iseq K (qv 4)) (fun _ _ _ => (gname (i := 0) (show (["_law_tie", "_law_before"] : List Str).Nodup by decide +kernel) rfl (by first | exact Or.inl rfl | exact Or.inr rfl))) (fun _ _ _ => (csone (tcmp (rNotInnD K hr) (qv 0) (qv 1) (by with_unfolding_all rfl)))) (fun _ _ _ => (qv 0)) rfl rfl (by decide +kernel)) (qlst qnil) (nomark _)) (wor1 (tcmp (rNeNil hr) (qcomp (sc := defScope s_law_led) (NX := ["_law_before", "_law_ends", "_law_behind", "_law_came", "_law_went"]) ["_law_tie", "_law_before"] [none, some 0] rfl (iseq K (qv 3)) (fun _ _ _ => (gname (i := 0) (show (["_law_tie", "_law_before"] : List Str).Nodup by decide +kernel) rfl (by first | exact Or.inl rfl | exact Or.inr rfl))) (fun _ _ _ => (csone (tcmp (rInnD K hr) (qv 0) (qv 1) (by with_unfolding_all rfl)))) (fun _ _ _ => (qv 0)) rfl rfl (by decide +kernel)) (qlst qnil) (nomark _))))) (bone (sret qbl)) bnil)
      (bone (sret (qcmp (rEqq hr) (qB (fSortT K) rfl T.b_sorted bt_sorted (qcons (qop rAdd (qcomp (sc := defScope s_law_led) (NX := ["_law_before", "_law_ends", "_law_behind", "_law_came", "_law_went"]) ["_law_tie", "_law_went"] [none, some 4] rfl (iseq K (qv 0)) (fun _ _ _ => (gname (i := 0) (show (["_law_tie", "_law_went"] : List Str).Nodup by decide +kernel) rfl (by first | exact Or.inl rfl | exact Or.inr rfl))) (fun _ _ _ => (csone (tcmp (rNotInnD K hr) (qv 0) (qv 1) (by with_unfolding_all rfl)))) (fun _ _ _ => (qv 0)) rfl rfl (by decide +kernel)) (qv 3)) qnil)) (qv 2) (nomark _)))))), ?_⟩
    refine ⟨_, rfl, be, _, rfl, SqT.of ee, rfl, _, _, rfl, _, _, rfl, rfl, ?_⟩
    -- what went stood before
    refine ⟨_, rfl, g, rfl, .inl ⟨⟨_, SqL.of eg⟩, fun c3 a3 => ?_⟩⟩
    refine comp_list (xs := wg) (fun i ys σ H' => ∃ z, σ = [z, some (.ref bb)] ∧ Same H H' ∧ H' c3 = some (.lst ys) ∧ ys = []) ⟨none, rfl, same_new a3, upd_same, rfl⟩ (fun i ys σ H' hh => by obtain ⟨_, _, s', _⟩ := hh; exact SqL.of (s' _ _ eg)) ?_ ?_
    · rintro i ys y σ G hy hi ⟨z, rfl, sG, eG, rfl⟩
      obtain ⟨p, hp, gp⟩ := reps_map Rg hy
      have hin : p ∈ q1 := (List.mem_filter.mp (List.mem_of_getElem? hp)).1
      refine ⟨_, rfl, _, rfl, bb, wb, pairD p, q1.map pairD, rfl, SqL.of (sG _ _ eb), gp.mono sG, Rb.mono sG, rfl, pures_map pure_pair _, Nat.le_trans (deps_map (n := 1) (fun _ => Nat.le_refl _) _) (by decide), _, rfl, ?_⟩
      rw [pairs_any, if_pos rfl, decide_eq_true hin]
      refine iteF ?_
      exact cskip hi (ys := []) ⟨_, rfl, sG, eG, rfl⟩
    rintro ys σ H1 ⟨z, rfl, s1, e1, rfl⟩
    refine ⟨(show 0 ≤ sizeLine by decide), fun k2 H2 m2 s2 e2 _ => ?_⟩
    refine ⟨c3, k2, [], rfl, rfl, s2 _ _ e1, e2, _, rfl, ?_⟩
    refine iteF ?_
    have s02 := s1.trans s2
    -- what came did not
    refine ⟨_, rfl, c, rfl, .inl ⟨⟨_, SqL.of (s02 _ _ ec)⟩, fun c4 a4 => ?_⟩⟩
    refine comp_list (xs := wc) (fun i ys σ H' => ∃ z, σ = [z, some (.ref bb)] ∧ Same H2 H' ∧ H' c4 = some (.lst ys) ∧ ys = []) ⟨none, rfl, same_new a4, upd_same, rfl⟩ (fun i ys σ H' hh => by obtain ⟨_, _, s', _⟩ := hh; exact SqL.of (s' _ _ (s02 _ _ ec))) ?_ ?_
    · rintro i ys y σ G hy hi ⟨z, rfl, sG, eG, rfl⟩
      obtain ⟨p, hp, gp⟩ := reps_map Rc hy
      have hin : p ∉ q1 := mem.mp (List.mem_filter.mp (List.mem_of_getElem? hp)).2
      have s0G := s02.trans sG
      refine ⟨_, rfl, _, rfl, bb, wb, pairD p, q1.map pairD, rfl, SqL.of (s0G _ _ eb), gp.mono s0G, Rb.mono s0G, rfl, pures_map pure_pair _, Nat.le_trans (deps_map (n := 1) (fun _ => Nat.le_refl _) _) (by decide), _, rfl, ?_⟩
      rw [pairs_any, if_neg Bool.false_ne_true, decide_eq_false hin]
      refine iteF ?_
      exact cskip hi (ys := []) ⟨_, rfl, sG, eG, rfl⟩
    rintro ys σ H3 ⟨z, rfl, s3, e3, rfl⟩
    refine ⟨(show 0 ≤ sizeLine by decide), fun k4 H4 m4 s4 e4 _ => ?_⟩
    refine ⟨c4, k4, [], rfl, rfl, s4 _ _ e3, e4, _, rfl, ?_⟩
    refine iteF ?_
    have s04 := s02.trans (s3.trans s4)
    -- what stands behind
    refine ⟨_, rfl, bb, rfl, .inl ⟨⟨_, SqL.of (s04 _ _ eb)⟩, fun c5 a5 => ?_⟩⟩
    refine comp_list (xs := wb) (fun i ys σ H' => ∃ z, σ = [z, some (.ref g)] ∧ Same H4 H' ∧ H' c5 = some (.lst ys) ∧ Reps H ys (((q1.take i).filter (nin (q1.filter (nin q2)))).map pairD)) ⟨none, rfl, same_new a5, upd_same, .nil⟩ (fun i ys σ H' hh => by obtain ⟨_, _, s', _⟩ := hh; exact SqL.of (s' _ _ (s04 _ _ eb))) ?_ ?_
    · rintro i ys y σ G hy hi ⟨z, rfl, sG, eG, gG⟩
      obtain ⟨p, hp, gp⟩ := reps_map Rb hy
      have hlG := gG.length
      rw [List.length_map] at hlG
      have hfl := List.length_filter_le (nin (q1.filter (nin q2))) (q1.take i)
      rw [List.length_take] at hfl
      have s0G := s04.trans sG
      have htk : (q1.take (i + 1)).filter (nin (q1.filter (nin q2))) = (q1.take i).filter (nin (q1.filter (nin q2))) ++ (if nin (q1.filter (nin q2)) p = true then [p] else []) := by
        rw [List.take_add_one, hp, List.filter_append]
        congr 1
        by_cases h : nin (q1.filter (nin q2)) p = true <;> simp [h]
      refine ⟨_, rfl, _, rfl, g, wg, pairD p, (q1.filter (nin q2)).map pairD, rfl, SqL.of (s0G _ _ eg), gp.mono s0G, Rg.mono s0G, rfl, pures_map pure_pair _, Nat.le_trans (deps_map (n := 1) (fun _ => Nat.le_refl _) _) (by decide), _, rfl, ?_⟩
      rw [pairs_any]
      by_cases h : nin (q1.filter (nin q2)) p = true
      · rw [if_pos h] at htk
        have h' : (!decide (p ∈ q1.filter (nin q2))) = true := h
        rw [if_pos rfl, h']
        refine iteT ?_
        refine ⟨_, rfl, ?_⟩
        refine cpost eG (sizeBig (by lia)) hi ?_
        refine ⟨_, rfl, same_upd sG a5, upd_same, ?_⟩
        rw [htk, List.map_append]
        exact gG.append (.cons gp .nil)
      · rw [if_neg h, List.append_nil] at htk
        have h' : (!decide (p ∈ q1.filter (nin q2))) = false := by
          cases hh : (!decide (p ∈ q1.filter (nin q2))) with
          | false => rfl
          | true => exact absurd hh h
        rw [if_pos rfl, h']
        refine iteF ?_
        refine cskip hi (ys := ys) ?_
        exact ⟨_, rfl, sG, eG, by rw [htk]; exact gG⟩
    rintro ws σ H5 ⟨z, rfl, s5, e5, R5⟩
    rw [lb, List.take_length] at R5
    have s05 := s04.trans s5
    have l5 := R5.length
    rw [List.length_map] at l5
    have f5 := List.length_filter_le (nin (q1.filter (nin q2))) q1
    refine ⟨_, rfl, ws, wc, e5, s05 _ _ ec, sizeBig' (by lia), fun k6 H6 m6 s6 e6 _ => ?_⟩
    have s06 := s05.trans s6
    have R6 : Reps H6 (ws ++ wc) ((q1.filter (nin (q1.filter (nin q2))) ++ q2.filter (nin q1)).map pairD) := by
      rw [List.map_append]
      exact ((R5.mono s06).append (Rc.mono s06))
    obtain ⟨zs, h1, h2, h3⟩ := zip_pairs R6
    have pm := led_perm n1 n2
    have hzl : zs.length = q2.length := by rw [← pm.length_eq, ← h2, List.length_map]
    refine ⟨k6, zs, rfl, SqL.of (by rw [← h1]; exact e6), by lia, fun z hz => ⟨SqT.of (h3 z hz).2, by rw [(h3 z hz).1]; exact fun h => nomatch h⟩, fun k7 H7 ys m7 s7 e7 _ p7 o7 => ?_⟩
    have hy : ∀ z ∈ ys, z.2 = prs (unp z) ∧ H7 z.1 = some (.tup (z.2.map V.int)) := fun z hz => by
      obtain ⟨a1, a2⟩ := h3 z (p7.mem_iff.mp hz)
      exact ⟨a1, s7 _ _ a2⟩
    have hq : ys.map unp = q2 := by
      refine rises_one (((p7.map unp).trans (by rw [h2])).trans pm) ?_ o2
      refine List.pairwise_map.mpr (List.Pairwise.imp_of_mem (fun {a b} ha hb hab => ?_) o7)
      rw [← (hy a ha).1, ← (hy b hb).1]; exact hab
    have R7 := pairs_zip hy
    rw [hq] at R7
    have s07 := s06.trans s7
    refine ⟨_, rfl, eq_same (.lst e7 R7) (.lst (s07 _ _ eh) (Rh.mono s07)) (by rw [D.pure]; exact pures_map pure_pair _) (Nat.le_trans (Nat.succ_le_succ (deps_map (n := 1) (fun _ => Nat.le_refl _) _)) (by decide)) ?_⟩
    exact q H7 s07
end
end K41C
namespace K41C
open PySem L2 L3 K41
noncomputable def SO (C : Addr) (H : Hp) (p : Addr) (room : Int) (t : Tr) : Prop := ∃ x y, ShA C H p room t x y ∧ x.length ≤ 60 ∧ y.length ≤ 60
theorem SO.same {C : Addr} {H H' : Hp} {p : Addr} {room : Int} {t : Tr} (h : SO C H p room t) (s : Same H H') : SO C H' p room t := by
  obtain ⟨x, y, S, h1, h2⟩ := h
  exact ⟨x, y, S.same s, h1, h2⟩
theorem SO.other {C : Addr} {H H' : Hp} {p p' : Addr} {room room' : Int} {t t' : Tr} (h : SO C H p room t) (h' : SO C H p' room' t') (hne : p ≠ p') (s : Same (rm p' H) H') : SO C H' p room t := by
  obtain ⟨x, y, S, h1, h2⟩ := h
  obtain ⟨_, _, S', _⟩ := h'
  exact ⟨x, y, S.other S' hne s, h1, h2⟩
noncomputable def Went (way k : Int) (t t' : Tr) : Prop := (t' = t ∧ ((way = 0 ∧ k ∈ t.keys) ∨ (way = 1 ∧ k ∉ t.keys))) ∨ (way = 0 ∧ k ∉ t.keys ∧ t' = t.ins k) ∨ (way = 1 ∧ k ∈ t.keys ∧ t' = del t k)
theorem Dd.went {room way k : Int} {t : Tr} {x y : List (Int × Int)} {b : Bool} {t' : Tr} {x' y' : List (Int × Int)} (h : Dd room way k t x y b t' x' y') : Went way k t t' := by
  rcases h with ⟨_, h1, _, _, h2⟩ | ⟨_, h, _⟩
  · exact .inl ⟨h1, h2⟩
  · exact .inr h
theorem Went.sm {way k : Int} {t t' : Tr} (h : Went way k t t') (o : t.ord none none) (z : t.size ≤ 58) : Sm t' ∧ t'.size ≤ t.size + 1 := by
  rcases h with ⟨rfl, _⟩ | ⟨_, hk, rfl⟩ | ⟨_, hk, rfl⟩
  · exact ⟨⟨by lia, o⟩, by lia⟩
  · have hi := Tr.ins_size k t
    exact ⟨⟨by lia, Tr.ins_ord k t none none o hk (fun _ z => nomatch z) (fun _ z => nomatch z)⟩, by lia⟩
  · have hi := del_ht t k
    exact ⟨⟨by lia, del_ord t k none none o⟩, by lia⟩
theorem Went.has {way k : Int} {t t' : Tr} (h : Went way k t t') (o : t.ord none none) : decide (decide (k ∈ t'.keys) = decide (way = 0)) = true := by
  rcases h with ⟨rfl, ⟨rfl, hk⟩ | ⟨rfl, hk⟩⟩ | ⟨rfl, hk, rfl⟩ | ⟨rfl, hk, rfl⟩
  · simp [hk]
  · simp [hk]
  · have : k ∈ (t.ins k).keys := (Tr.mem_ins k k t).mpr (.inl rfl)
    simp [this]
  · have : k ∉ (del t k).keys := del_not t k _ _ o
    simp [this]
noncomputable def spStep (C : Addr) : Sp := fun vs H Q _ => ∃ (p : Addr) (room way k : Int) (t : Tr), vs = [.ref p, .int room, .int way, .int k] ∧ SO C H p room t ∧ t.ord none none ∧ t.size ≤ 58 ∧ (way = 0 ∨ way = 1) ∧
  ∀ H' t', Same (rm p H) H' → SO C H' p room t' → Went way k t t' → Q (.bl true) H'
theorem ends_rep {H : Hp} {b : Addr} {x y : List (Int × Int)} (h : Ends2 H b x y) : Rep H (.ref b) (.tup [.lst (x.map pairD), .lst (y.map pairD)]) := by
  obtain ⟨c, g, wc, wg, h1, h2, h3, h4, h5⟩ := h
  exact .tup h1 (.cons (.lst h2 h3) (.cons (.lst h4 h5) .nil))
theorem ends_pure (x y : List (Int × Int)) : (D.tup [.lst (x.map pairD), .lst (y.map pairD)]).pure = true := by
  rw [D.pure, pures, pures, pures, D.pure, D.pure, pures_map pure_pair, pures_map pure_pair]; rfl
theorem ends_dep (x y : List (Int × Int)) : (D.tup [.lst (x.map pairD), .lst (y.map pairD)]).dep ≤ 140 := by
  have h1 := deps_map (f := pairD) (n := 1) (fun _ => Nat.le_refl _) x
  have h2 := deps_map (f := pairD) (n := 1) (fun _ => Nat.le_refl _) y
  rw [D.dep, deps, deps, deps, D.dep, D.dep]
  lia
theorem Chg.len {room : Int} {t t' : Tr} {x y : List (Int × Int)} (h : Chg room t t' x y) (z : t.size ≤ 60) (z' : t'.size ≤ 60) (n : t.keys.Nodup) (n' : t'.keys.Nodup) : x.length ≤ 60 ∧ y.length ≤ 60 := by
  obtain ⟨q1, q2, p1, _, p2, _, rfl, rfl⟩ := h
  have a1 := p1.length_eq
  have a2 := p2.length_eq
  have b1 := tie_len (t.pt room) t
  have b2 := tie_len (t'.pt room) t'
  rw [tP_tS room (Tr.pt_nodup room n) t fun e he => he] at b1
  rw [tP_tS room (Tr.pt_nodup room n') t' fun e he => he] at b2
  have c1 := List.length_filter_le (nin q1) q2
  have c2 := List.length_filter_le (nin q2) q1
  exact ⟨by lia, by lia⟩
section
variable {P : Program} {w : World} {K : PySem.W.Frag} {mg : Str → Option Value} {base : Heap}
theorem ok_step {f C : Addr} (F : Fd K mg "_law_step" s_law_step f) (T : Tx K mg) (C_Shelf_tree : CalM P w K mg base CX0 1 C "tree" (spTreeM C)) (C_Shelf_last : CalM P w K mg base CX0 1 C "last" (spLastM C)) (C_Shelf_worst : CalM P w K mg base CX0 84 C "worst" (spWorstM C)) (C_Shelf_has : CalM P w K mg base CX0 3 C "has" (spHasM C)) (C_ties : Cal P w K mg base CX0 84 "ties" (spTies 84)) (C_law_deed : Cal P w K mg base CX0 166 "_law_deed" (spDeed C)) (C_law_stands : Cal P w K mg base CX0 86 "_law_stands" (spStands C)) (C_law_led : Cal P w K mg base CX0 1 "_law_led" spLed) : Cal P w K mg base CX0 167 "_law_step" (spStep C) := by
  refine F.cal sc_law_step (fun _ _ _ _ _ _ us hl => L3.bind4 (fun _ _ _ _ => rfl) us hl) (fun vs H Q E h => ?_) (fun cdv A outer s H vs Q E hr h => ?_)
  · obtain ⟨p, room, way, k, t, rfl, _⟩ := h; rfl
  · obtain ⟨p, room, way, k, t, rfl, ⟨x, y, S, hx, hy⟩, ho, hz, hw, q⟩ := h
    have M : Sm t := ⟨by lia, ho⟩
    have nm : ∀ {H : Hp} {x y : List (Int × Int)} {t : Tr}, ShA C H p room t x y → ∃ dx fs, H p = some (.ins C dx fs) ∧ ∀ m : Str, ((m = "room" ∨ m = "kept" ∨ m = "changed") → False) → fs.lookup m = none := fun S => by
      obtain ⟨dx, b, v, e, _⟩ := S.ob
      exact ⟨dx, _, e, fun m h => fl_no _ _ _ h⟩
    have nT : (("tree" : Str) = "room" ∨ ("tree" : Str) = "kept" ∨ ("tree" : Str) = "changed") → False := by decide +kernel
    have nL : (("last" : Str) = "room" ∨ ("last" : Str) = "kept" ∨ ("last" : Str) = "changed") → False := by decide +kernel
    have nW : (("worst" : Str) = "room" ∨ ("worst" : Str) = "kept" ∨ ("worst" : Str) = "changed") → False := by decide +kernel
    have nH : (("has" : Str) = "room" ∨ ("has" : Str) = "kept" ∨ ("has" : Str) = "changed") → False := by decide +kernel
    refine ⟨_, (bcons (sset (i := 4) sc_law_step.nd rfl (by first | exact Or.inl rfl | exact Or.inr rfl) (qmeth0 C_Shelf_tree (hr.mono (by lia)) pass0 (qv 0)))
      (bcons (sset (i := 5) sc_law_step.nd rfl (by first | exact Or.inl rfl | exact Or.inr rfl) (qF C_ties (hr.mono (by lia)) pass0 rfl (qcons (qv 4) (qcons (qv 1) qnil))))
      (bcons (sset (i := 6) sc_law_step.nd rfl (by first | exact Or.inl rfl | exact Or.inr rfl) (qmeth0 C_Shelf_last (hr.mono (by lia)) pass0 (qv 0)))
      (bcons (sset (i := 7) sc_law_step.nd rfl (by first | exact Or.inl rfl | exact Or.inr rfl) (qmeth0 C_Shelf_worst (hr.mono (by lia)) pass0 (qv 0)))
      (bcons (sset (i := 8) sc_law_step.nd rfl (by first | exact Or.inl rfl | exact Or.inr rfl) (qF C_law_deed (hr.mono (by lia)) pass0 rfl (qcons (qv 0) (qcons (qv 2) (qcons (qv 3) qnil)))))
      (bcons (sif (tnot (ttru K (qF C_law_stands (hr.mono (by lia)) pass0 rfl (qcons (qv 0) (qcons (qv 1) qnil))) (fun _ => rfl))) (bone (sret qbl)) bnil)
      (bcons (sif (tnot (ttru K (qv 8) (fun _ => rfl))) (bone (sret (qand K (qcmp (rEqq hr) (qmeth0 C_Shelf_tree (hr.mono (by lia)) pass0 (qv 0)) (qv 4) (nomark _)) (qand K (qcmp (rEqq hr) (qmeth0 C_Shelf_last (hr.mono (by lia)) pass0 (qv 0)) (qv 6) (nomark _)) (qone (qcmp (rEqq hr) (qmeth C_Shelf_has (hr.mono (by lia)) pass0 (qv 0) (qcons (qv 3) qnil)) (qcmp (rEqq hr) (qv 2) qint (nomark _)) (nomark _))))))) bnil)
      (bcons (sif (tnot (ttru K (qF C_law_led (hr.mono (by lia)) pass0 rfl (qcons (qv 5) (qcons (qmeth0 C_Shelf_last (hr.mono (by lia)) pass0 (qv 0)) (qcons (qF C_ties (hr.mono (by lia)) pass0 rfl (qcons (qmeth0 C_Shelf_tree (hr.mono (by lia)) pass0 (qv 0)) (qcons (qv 1) qnil))) qnil)))) (fun _ => rfl))) (bone (sret qbl)) bnil)
      (bcons (sset (i := 9) sc_law_step.nd rfl (by first | exact Or.inl rfl | exact Or.inr rfl) (qop rSub (qmeth0 C_Shelf_worst (hr.mono (by lia)) pass0 (qv 0)) (qv 7)))
      (bone (sret (qand K (qcmp (rEqq hr) (qmeth C_Shelf_has (hr.mono (by lia)) pass0 (qv 0) (qcons (qv 3) qnil)) (qcmp (rEqq hr) (qv 2) qint (nomark _)) (nomark _)) (qone (qcmp (rInn K) (qv 9) (qix (xIx K) (qlst (qcons (qlst (qcons qint (qcons qint qnil))) (qcons (qlst (qcons qint (qcons (qun rNeg qint) qnil))) qnil))) (qv 2) (fun _ _ => rfl)) (by with_unfolding_all rfl))))))))))))))), ?_⟩
    obtain ⟨dx, fs, hp, hf⟩ := nm S
    refine ⟨_, rfl, p, dx, fs, rfl, hp, hf _ nT, p, room, t, x, y, rfl, S, fun v hv => ?_⟩
    refine ⟨_, rfl, _, rfl, v, t, room, rfl, hv, M.ht, by lia, M.nd, fun r1 H1 w1 q1 n1 s1 e1 R1 m1 o1 => ?_⟩
    rw [tP_tS room (Tr.pt_nodup room M.nd) t fun e he => he] at m1
    refine ⟨_, rfl, p, dx, fs, rfl, s1 _ _ hp, hf _ nL, p, room, t, x, y, rfl, S.same s1, by lia, by lia, fun b2 H2 s2 E2 => ?_⟩
    have s02 := s1.trans s2
    refine ⟨_, rfl, p, dx, fs, rfl, s02 _ _ hp, hf _ nW, p, room, t, x, y, rfl, S.same s02, M, fun H3 s3 => ?_⟩
    have s03 := s02.trans s3
    refine ⟨_, rfl, _, rfl, _, rfl, p, way, k, room, t, x, y, rfl, S.same s03, M, hw, fun b H4 t' x' y' s4 S4 D4 => ?_⟩
    have k4 : Kd H3 H4 := Kd.rm (s03 _ _ hp) s4
    have s04 : Same (rm p H) H4 := rm_trans (rm_same.trans s03) s4
    have W4 := D4.went
    obtain ⟨M4, hz4⟩ := W4.sm ho hz
    have hz4' := M4.z
    refine ⟨_, rfl, _, rfl, p, room, t', x', y', rfl, S4, M4, fun H5 s5 => ?_⟩
    refine ⟨_, rfl, ?_⟩
    refine iteF ?_
    have S5 := S4.same s5
    have k5 : Kd H3 H5 := k4.trans (.same s5)
    obtain ⟨dx5, fs5, hp5, hf5⟩ := nm S5
    have hhas := W4.has ho
    rcases D4 with ⟨rfl, rfl, rfl, rfl, hh⟩ | ⟨rfl, hh, hc⟩
    · refine ⟨_, rfl, _, rfl, ?_⟩
      refine iteT ?_
      refine ⟨_, rfl, p, dx5, fs5, rfl, hp5, hf5 _ nT, p, room, t', x', y', rfl, S5, fun v' hv' => ?_⟩
      refine ⟨_, rfl, ?_⟩
      refine eq_tr hv' (rep_kd k5 (hv.mono s03)) (by have := M.ht; lia) ?_
      refine ⟨_, rfl, ?_⟩
      refine iteT ?_
      refine ⟨_, rfl, p, dx5, fs5, rfl, hp5, hf5 _ nL, p, room, t', x', y', rfl, S5, by lia, by lia, fun b6 H6 s6 E6 => ?_⟩
      refine ⟨_, rfl, ?_⟩
      refine eq_same (ends_rep E6) (ends_rep ((E2.kd (.same s3)).kd (k5.trans (.same s6)))) (ends_pure _ _) (ends_dep _ _) ?_
      refine ⟨_, rfl, ?_⟩
      refine iteT ?_
      refine ⟨_, rfl, p, dx5, fs5, rfl, s6 _ _ hp5, hf5 _ nH, _, rfl, p, k, room, t', x', y', rfl, S5.same s6, M4, ?_⟩
      refine ⟨_, rfl, ?_⟩
      show Q (.bl (decide (decide (k ∈ t'.keys) = decide (way = 0)))) H6
      rw [hhas]
      have s56 := s5.trans s6
      exact q H6 t' (s04.trans s56) ⟨x', y', S4.same s56, hx, hy⟩ W4
    · obtain ⟨hx', hy'⟩ := hc.len (by lia) (by lia) M.nd M4.nd
      refine ⟨_, rfl, _, rfl, ?_⟩
      refine iteF ?_
      refine ⟨_, rfl, _, rfl, p, dx5, fs5, rfl, hp5, hf5 _ nL, p, room, t', x', y', rfl, S5, by lia, by lia, fun b6 H6 s6 E6 => ?_⟩
      refine ⟨_, rfl, p, dx5, fs5, rfl, s6 _ _ hp5, hf5 _ nT, p, room, t', x', y', rfl, S5.same s6, fun v' hv' => ?_⟩
      refine ⟨_, rfl, v', t', room, rfl, hv', M4.ht, by lia, M4.nd, fun r7 H7 w7 q7 n7 s7 e7 R7 m7 o7 => ?_⟩
      rw [tP_tS room (Tr.pt_nodup room M4.nd) t' fun e he => he] at m7
      have s57 := s6.trans s7
      have k7 : Kd H1 H7 := (Kd.same (s2.trans s3)).trans (k5.trans (.same s57))
      obtain ⟨a1, a2, p1, u1, p2, u2, ex, ey⟩ := hc
      have z1 : a1 = q1 := rises_one (p1.trans m1.symm) u1 o1
      have z2 : a2 = q7 := rises_one (p2.trans m7.symm) u2 o7
      rw [z1, z2] at ex ey
      have b1 := tie_len (t.pt room) t
      have b2' := tie_len (t'.pt room) t'
      rw [tP_tS room (Tr.pt_nodup room M.nd) t fun e he => he] at b1
      rw [tP_tS room (Tr.pt_nodup room M4.nd) t' fun e he => he] at b2'
      have c1 := m1.length_eq
      have c7 := m7.length_eq
      refine ⟨r1, b6, r7, w1, w7, q1, q7, rfl, k7 _ _ e1 (fun _ _ _ z => nomatch z), reps_kd k7 R1, by rw [← ex, ← ey]; exact E6.kd (.same s7), e7, R7, m1.nodup_iff.mpr (tS_nd room t M.nd), m7.nodup_iff.mpr (tS_nd room t' M4.nd), by lia, by lia, o7, fun H8 s8 => ?_⟩
      refine ⟨_, rfl, ?_⟩
      refine iteF ?_
      have s58 := s57.trans s8
      refine ⟨_, rfl, p, dx5, fs5, rfl, s58 _ _ hp5, hf5 _ nW, p, room, t', x', y', rfl, S5.same s58, M4, fun H9 s9 => ?_⟩
      refine ⟨_, rfl, _, _, rfl, rfl, ?_⟩
      have s59 := s58.trans s9
      refine ⟨_, rfl, p, dx5, fs5, rfl, s59 _ _ hp5, hf5 _ nH, _, rfl, p, k, room, t', x', y', rfl, S5.same s59, M4, ?_⟩
      refine ⟨_, rfl, ?_⟩
      show ∃ c, TruV K (.bl (decide (decide (k ∈ t'.keys) = decide (way = 0)))) H9 c ∧ _
      rw [hhas]
      refine ⟨_, rfl, ?_⟩
      refine iteT ?_
      refine ⟨_, rfl, (show 2 ≤ sizeLine by decide), fun l1 G1 g1 t1 f1 _ => ?_⟩
      refine ⟨_, rfl, (show 2 ≤ sizeLine by decide), fun l2 G2 g2 t2 f2 _ => ?_⟩
      refine ⟨(show 2 ≤ sizeLine by decide), fun l3 G3 g3 t3 f3 _ => ?_⟩
      have s5G := s59.trans (t1.trans (t2.trans t3))
      have key : ∃ (lw : Addr) (xs : List Int), atI [V.ref l1, V.ref l2] way = some (V.ref lw) ∧ G3 lw = some (.lst (xs.map V.int)) ∧ (t'.mark room).1 - (t.mark room).1 ∈ xs := by
        rcases hh with ⟨rfl, hk, rfl⟩ | ⟨rfl, hk, rfl⟩
        · refine ⟨l1, [0, 1], atI_nat (j := 0) rfl, (t2.trans t3) _ _ f1, ?_⟩
          have := lev_ins room k t
          simp only [List.mem_cons, List.not_mem_nil, or_false]
          lia
        · refine ⟨l2, [0, -1], atI_nat (j := 1) rfl, t3 _ _ f2, ?_⟩
          have := lev_del room ho hk
          simp only [List.mem_cons, List.not_mem_nil, or_false]
          lia
      obtain ⟨lw, xs, ha, he, hm⟩ := key
      refine ⟨_, rfl, l3, _, way, _, rfl, rfl, .inl (SqL.of f3), ha, lw, _, rfl, .inl (SqL.of he), rfl, flat_ints _, ?_⟩
      rw [inV_ints, decide_eq_true hm]
      exact q G3 t' (s04.trans (s5.trans s5G)) ⟨x', y', S4.same (s5.trans s5G), hx', hy'⟩ W4
end
end K41C
namespace K41C
open PySem L2 L3 K41
theorem pairs_rm {H : Hp} {l : Addr} {xs : List V} (e : H l = some (.lst xs)) : ∀ {ps : List (Int × Int)} {vs : List V}, Reps H vs (ps.map pairD) → Reps (rm l H) vs (ps.map pairD)
  | [], _, h => by cases h; exact .nil
  | p :: ps, _, h => by
    cases h with
    | cons h1 h2 =>
      obtain ⟨b, rfl, eb⟩ := rep_pair h1
      exact .cons (pair_rep (by rw [rm_ne (fun z => by rw [z, e] at eb; cases eb)]; exact eb)) (pairs_rm e h2)
theorem not_pen {H : Hp} {c pn : Addr} {wc : List V} {x : List (Int × Int)} (hp : PenAt H pn) (e : H c = some (.lst wc)) (R : Reps H wc (x.map pairD)) : c ≠ pn := fun z => by
  obtain ⟨m, n, hp⟩ := hp
  rw [z, hp] at e
  cases e
  cases x with
  | nil => cases R
  | cons p x =>
    cases R with
    | cons h _ =>
      obtain ⟨b, h, _⟩ := rep_pair h
      cases h
theorem so_off {C : Addr} {H : Hp} {p pn : Addr} {room : Int} {t : Tr} (h : SO C H p room t) (hp : PenAt H pn) : SO C (rm pn H) p room t := by
  obtain ⟨x, y, S, hx, hy⟩ := h
  obtain ⟨dx, b, v, e, g, c, d, wc, wd, h1, h2, h3, h4, h5⟩ := S.ob
  obtain ⟨m, n, hq⟩ := id hp
  refine ⟨x, y, ⟨dx, b, v, ?_, rep_rm hq t g, c, d, wc, wd, ?_, ?_, pairs_rm hq h3, ?_, pairs_rm hq h5⟩, hx, hy⟩
  · rw [rm_ne (fun z => by rw [z, hq] at e; cases e)]; exact e
  · rw [rm_ne (fun z => by rw [z, hq] at h1; cases h1)]; exact h1
  · rw [rm_ne (not_pen hp h2 h3)]; exact h2
  · rw [rm_ne (not_pen hp h4 h5)]; exact h4
theorem SO.at {C : Addr} {H : Hp} {p : Addr} {room : Int} {t : Tr} (h : SO C H p room t) : ∃ dx fs, H p = some (.ins C dx fs) ∧ ∀ m : Str, ((m = "room" ∨ m = "kept" ∨ m = "changed") → False) → fs.lookup m = none := by
  obtain ⟨x, y, S, _⟩ := h
  obtain ⟨dx, b, v, e, _⟩ := S.ob
  exact ⟨dx, _, e, fun m h => fl_no _ _ _ h⟩
structure LI (C : Addr) (G : Hp) (pn ps po pw lk : Addr) (room : Int) (xs : List Int) (t to tw : Tr) : Prop where
  pen : PenAt G pn
  el : G lk = some (.lst (xs.map V.int))
  s : SO C (rm pn G) ps room t
  o : SO C (rm pn G) po room to
  w : SO C (rm pn G) pw (room + 1) tw
section
variable {C : Addr} {G G' : Hp} {pn ps po pw lk : Addr} {room : Int} {xs : List Int} {t to tw : Tr}
theorem LI.draw (L : LI C G pn ps po pw lk room xs t to tw) (s : Same (rm pn G) G') (p : PenAt G' pn) (h : lk ≠ pn) : LI C G' pn ps po pw lk room xs t to tw :=
  ⟨p, rm_look s L.el h, L.s.same (rm_mono s), L.o.same (rm_mono s), L.w.same (rm_mono s)⟩
theorem LI.same (L : LI C G pn ps po pw lk room xs t to tw) (s : Same G G') : LI C G' pn ps po pw lk room xs t to tw :=
  ⟨L.pen.mono s, s _ _ L.el, L.s.same (rm_of' s), L.o.same (rm_of' s), L.w.same (rm_of' s)⟩
theorem LI.s' (L : LI C G pn ps po pw lk room xs t to tw) : SO C G ps room t := L.s.same rm_same
theorem LI.o' (L : LI C G pn ps po pw lk room xs t to tw) : SO C G po room to := L.o.same rm_same
theorem LI.w' (L : LI C G pn ps po pw lk room xs t to tw) : SO C G pw (room + 1) tw := L.w.same rm_same
theorem li_keep (L : LI C G pn ps po pw lk room xs t to tw) {p : Addr} {r : Int} {u : Tr} (h : SO C G p r u) (s : Same (rm p G) G') : PenAt G' pn ∧ G' lk = some (.lst (xs.map V.int)) := by
  obtain ⟨dx, fs, e, _⟩ := h.at
  obtain ⟨m, n, hq⟩ := L.pen
  exact ⟨⟨m, n, rm_look s hq (fun z => by rw [z, e] at hq; cases hq)⟩, rm_look s L.el (fun z => by have h2 := L.el; rw [z, e] at h2; cases h2)⟩
theorem LI.onS (L : LI C G pn ps po pw lk room xs t to tw) {t' : Tr} (s : Same (rm ps G) G') (h : SO C G' ps room t') (d1 : ps ≠ po) (d2 : ps ≠ pw) : LI C G' pn ps po pw lk room xs t' to tw := by
  obtain ⟨hp, hl⟩ := li_keep L L.s' s
  exact ⟨hp, hl, so_off h hp, so_off (L.o'.other L.s' d1.symm s) hp, so_off (L.w'.other L.s' d2.symm s) hp⟩
theorem LI.onO (L : LI C G pn ps po pw lk room xs t to tw) {t' : Tr} (s : Same (rm po G) G') (h : SO C G' po room t') (d1 : ps ≠ po) (d3 : po ≠ pw) : LI C G' pn ps po pw lk room xs t t' tw := by
  obtain ⟨hp, hl⟩ := li_keep L L.o' s
  exact ⟨hp, hl, so_off (L.s'.other L.o' d1 s) hp, so_off h hp, so_off (L.w'.other L.o' d3.symm s) hp⟩
theorem LI.onW (L : LI C G pn ps po pw lk room xs t to tw) {t' : Tr} (s : Same (rm pw G) G') (h : SO C G' pw (room + 1) t') (d2 : ps ≠ pw) (d3 : po ≠ pw) : LI C G' pn ps po pw lk room xs t to t' := by
  obtain ⟨hp, hl⟩ := li_keep L L.w' s
  exact ⟨hp, hl, so_off (L.s'.other L.w' d2 s) hp, so_off (L.o'.other L.w' d3 s) hp, so_off h hp⟩
end
theorem Went.new {k : Int} {t t' : Tr} (h : Went 0 k t t') (hk : k ∉ t.keys) : t' = t.ins k := by
  rcases h with ⟨_, ⟨_, h⟩ | ⟨h, _⟩⟩ | ⟨_, _, h⟩ | ⟨h, _⟩
  · exact absurd h hk
  · cases h
  · exact h
  · cases h
theorem made_same {H H' : Hp} {x dx C : Addr} (nx : H x = none) (nd : H dx = none) (s : Same (rm x (upd (upd H dx (.own x)) x (.ins C dx []))) H') : Same H H' := fun b o e => by
  have h1 := ne_of_none e nx
  have h2 := ne_of_none e nd
  exact s _ _ (by rw [rm_ne h1, upd_ne h1, upd_ne h2]; exact e)
section
variable {P : Program} {w : World} {K : PySem.W.Frag} {mg : Str → Option Value} {base : Heap}
theorem ok_law {f C cH : Addr} {fd : FuncData} (F : Fun K "law" "law" s_law f fd) (T : Tx K mg) (C_law_pen : Cal P w K mg base CX0 1 "_law_pen" (spPen K)) (C_law_draw : Cal P w K mg base CX0 1 "_law_draw" spDraw) (C_Shelf : CalI P w K mg base CX0 1 C "Shelf" (spInit C)) (C_Shelf_put : CalM P w K mg base (CXE P w) 88 C "put" (spPutM C cH))
    (C_Shelf_worst : CalM P w K mg base CX0 84 C "worst" (spWorstM C)) (C_Shelf_tree : CalM P w K mg base CX0 1 C "tree" (spTreeM C)) (C_law_step : Cal P w K mg base CX0 167 "_law_step" (spStep C)) (C_law_stands : Cal P w K mg base CX0 86 "_law_stands" (spStands C)) : FnOk P w K mg base CX0 168 f fd ["_law_script"] (spLaw K) := by
  refine okQ F sc_law (fun vs H Q E h => ?_) (fun cdv A outer s H vs Q E hr h => ?_)
  · obtain ⟨a, ns, rfl, _⟩ := h; rfl
  · obtain ⟨a, ns, rfl, ha, hl, q⟩ := h
    have nT : (("tree" : Str) = "room" ∨ ("tree" : Str) = "kept" ∨ ("tree" : Str) = "changed") → False := by decide +kernel
    have nP : (("put" : Str) = "room" ∨ ("put" : Str) = "kept" ∨ ("put" : Str) = "changed") → False := by decide +kernel
    have nW : (("worst" : Str) = "room" ∨ ("worst" : Str) = "kept" ∨ ("worst" : Str) = "changed") → False := by decide +kernel
    refine ⟨_, (bcons (sset (i := 1) sc_law.nd rfl (by first | exact Or.inl rfl | exact Or.inr rfl) (qF C_law_pen (hr.mono (by lia)) pass0 rfl (qcons (qv 0) (qcons qint qnil))))
      (bcons (sset (i := 2) sc_law.nd rfl (by first | exact Or.inl rfl | exact Or.inr rfl) (qop rAdd qint (qF C_law_draw (hr.mono (by lia)) pass0 rfl (qcons (qv 1) (qcons qint qnil)))))
      (bcons (sset (i := 3) sc_law.nd rfl (by first | exact Or.inl rfl | exact Or.inr rfl) (qmake C_Shelf (hr.mono (by lia)) pass0 rfl (qcons (qv 2) qnil)))
      (bcons (sset (i := 4) sc_law.nd rfl (by first | exact Or.inl rfl | exact Or.inr rfl) (qmake C_Shelf (hr.mono (by lia)) pass0 rfl (qcons (qv 2) qnil)))
      (bcons (sset (i := 5) sc_law.nd rfl (by first | exact Or.inl rfl | exact Or.inr rfl) (qmake C_Shelf (hr.mono (by lia)) pass0 rfl (qcons (qop rAdd (qv 2) qint) qnil)))
      (bcons (sset (i := 6) sc_law.nd rfl (by first | exact Or.inl rfl | exact Or.inr rfl) (qlst qnil))
      (bcons (sfor PassesOwn.never rfl (irange1 rfl T.b_range (qcons (qF C_law_draw (hr.mono (by lia)) pass0 rfl (qcons (qv 1) (qcons qint qnil))) qnil)) (gname (i := 7) sc_law.nd rfl (by first | exact Or.inl rfl | exact Or.inr rfl))
        (bone (sexpr (qBm K PySem.F.plainAttrs_list PySem.F.slot_list_insert PySem.F.type_list_insert mInsert (qv 6) (qcons (qF C_law_draw (hr.mono (by lia)) pass0 rfl (qcons (qv 1) (qcons (qop rAdd (qB (fLen K) rfl T.b_len bt_len (qcons (qv 6) qnil)) qint) qnil))) (qcons (qop rSub (qop rMul qint (qv 7)) qint) qnil))))))
      (bcons (sfor PassesOwn.never rfl (iseq K (qv 6)) (gname (i := 8) sc_law.nd rfl (by first | exact Or.inl rfl | exact Or.inr rfl))
        (bcons (sif (QW.tst (wor (tnot (ttru K (qF C_law_step (hr.mono (by lia)) pass0 rfl (qcons (qv 3) (qcons (qv 2) (qcons qint (qcons (qv 8) qnil))))) (fun _ => rfl))) (wor1 (tnot (ttru K (qF C_law_step (hr.mono (by lia)) pass0 rfl (qcons (qv 4) (qcons (qv 2) (qcons qint (qcons (qv 8) qnil))))) (fun _ => rfl)))))) (bone (sret qbl)) bnil)
        (bcons (sexpr (qmeth C_Shelf_put (hr.mono (by lia)) passN (qv 5) (qcons (qv 8) qnil)))
        (bcons (sif (tcmp (rEqq hr) (qF C_law_draw (hr.mono (by lia)) pass0 rfl (qcons (qv 1) (qcons qint qnil))) qint (nomark _)) (bcons (sset (i := 9) sc_law.nd rfl (by first | exact Or.inl rfl | exact Or.inr rfl) (qop rSub (qop rMul qint (qF C_law_draw (hr.mono (by lia)) pass0 rfl (qcons (qv 1) (qcons qint qnil)))) qint))
          (bcons (sset (i := 10) sc_law.nd rfl (by first | exact Or.inl rfl | exact Or.inr rfl) (qF C_law_draw (hr.mono (by lia)) pass0 rfl (qcons (qv 1) (qcons qint qnil))))
          (bone (sif (QW.tst (wor (tnot (ttru K (qF C_law_step (hr.mono (by lia)) pass0 rfl (qcons (qv 4) (qcons (qv 2) (qcons (qv 10) (qcons (qv 9) qnil))))) (fun _ => rfl))) (wor1 (tnot (ttru K (qF C_law_step (hr.mono (by lia)) pass0 rfl (qcons (qv 4) (qcons (qv 2) (qcons (qop rSub qint (qv 10)) (qcons (qv 9) qnil))))) (fun _ => rfl)))))) (bone (sret qbl)) bnil)))) bnil)
        (bone (sif (QW.tst (wor (tcmp rGt (qmeth0 C_Shelf_worst (hr.mono (by lia)) pass0 (qv 5)) (qmeth0 C_Shelf_worst (hr.mono (by lia)) pass0 (qv 3)) (nomark _)) (wor1 (tcmp (rNeq hr) (qmeth0 C_Shelf_tree (hr.mono (by lia)) pass0 (qv 5)) (qmeth0 C_Shelf_tree (hr.mono (by lia)) pass0 (qv 3)) (nomark _))))) (bone (sret qbl)) bnil))))))
      (bcons (sfor PassesOwn.never rfl (irange1 rfl T.b_range (qcons (qF C_law_draw (hr.mono (by lia)) pass0 rfl (qcons (qv 1) (qcons qint qnil))) qnil)) (gname (i := 7) sc_law.nd rfl (by first | exact Or.inl rfl | exact Or.inr rfl))
        (bcons (sset (i := 8) sc_law.nd rfl (by first | exact Or.inl rfl | exact Or.inr rfl) (qop rSub (qop rMul qint (qF C_law_draw (hr.mono (by lia)) pass0 rfl (qcons (qv 1) (qcons qint qnil)))) qint))
        (bone (sif (tnot (ttru K (qF C_law_step (hr.mono (by lia)) pass0 rfl (qcons (qv 3) (qcons (qv 2) (qcons (qF C_law_draw (hr.mono (by lia)) pass0 rfl (qcons (qv 1) (qcons qint qnil))) (qcons (qv 8) qnil))))) (fun _ => rfl))) (bone (sret qbl)) bnil))))
      (bone (sret (qand K (qF C_law_stands (hr.mono (by lia)) pass0 rfl (qcons (qv 4) (qcons (qv 2) qnil))) (qone (qF C_law_stands (hr.mono (by lia)) pass0 rfl (qcons (qv 5) (qcons (qop rAdd (qv 2) qint) qnil)))))))))))))))), ?_⟩
    refine ⟨_, rfl, a, 0, ns, rfl, ha, hl, by decide, by decide, fun pn H1 n1 s1 p1 => ?_⟩
    refine ⟨_, rfl, pn, 8, rfl, p1, by decide, by decide, fun r2 H2 r20 r21 p2 s2 => ?_⟩
    refine ⟨_, rfl, fun ps d3 nx3 nd3 ne3 => ⟨ps, d3, (1 + r2), rfl, upd_same, fun H3 s3 S3 => ⟨rfl, ?_⟩⟩⟩
    have t3 := made_same nx3 nd3 s3
    refine ⟨_, rfl, fun po d4 nx4 nd4 ne4 => ⟨po, d4, (1 + r2), rfl, upd_same, fun H4 s4 S4 => ⟨rfl, ?_⟩⟩⟩
    have t4 := made_same nx4 nd4 s4
    refine ⟨_, rfl, fun pw d5 nx5 nd5 ne5 => ⟨pw, d5, (1 + r2) + 1, rfl, upd_same, fun H5 s5 S5 => ⟨rfl, ?_⟩⟩⟩
    have t5 := made_same nx5 nd5 s5
    have O3 : SO C H5 ps (1 + r2) .nil := SO.same ⟨[], [], S3, by decide, by decide⟩ (t4.trans t5)
    have O4 : SO C H5 po (1 + r2) .nil := SO.same ⟨[], [], S4, by decide, by decide⟩ t5
    have O5 : SO C H5 pw ((1 + r2) + 1) .nil := ⟨[], [], S5, by decide, by decide⟩
    have d1 : ps ≠ po := fun z => by
      obtain ⟨_, _, e⟩ := S3.ins
      rw [z, nx4] at e; cases e
    have d2 : ps ≠ pw := fun z => by
      obtain ⟨_, _, e⟩ := (S3.same t4).ins
      rw [z, nx5] at e; cases e
    have d3' : po ≠ pw := fun z => by
      obtain ⟨_, _, e⟩ := S4.ins
      rw [z, nx5] at e; cases e
    have p5 := p2.mono (t3.trans (t4.trans t5))
    have O3 := so_off O3 p5
    have O4 := so_off O4 p5
    have O5 := so_off O5 p5
    clear s1 s2 s3 s4 s5 t3 t4 t5 S3 S4 S5 nx3 nd3 ne3 nx4 nd4 ne4 nx5 nd5 ne5 p1 p2
    refine ⟨(show 0 ≤ sizeLine by decide), fun lk H6 n6 s6 e6 _ => ?_⟩
    have hlp : lk ≠ pn := p5.ne n6
    have b6 : Same (rm pn H5) H6 := rm_same.trans s6
    have bp : rm pn H5 pn = none := rm_self
    have bl : rm pn H5 lk = none := rm_fresh n6
    refine ⟨_, rfl, pn, 17, rfl, p5.mono s6, by decide, by decide, fun r7 H7 r70 r71 p7 s7 => ?_⟩
    have b7 : Same (rm pn H5) H7 := (rm_of b6 bp).trans s7
    have e7 := rm_look s7 e6 hlp
    refine ⟨r7, rfl, by lia, by lia, for_range (n := r7.toNat) (fun i σ G => ∃ (z : Option V) (xs : List Int), σ = [some (.ref a), some (.ref pn), some (.int (1 + r2)), some (.ref ps), some (.ref po), some (.ref pw), some (.ref lk), z, none, none, none] ∧ PenAt G pn ∧ Same (rm pn H5) G ∧ G lk = some (.lst (xs.map V.int)) ∧ xs.length = i ∧ xs.Nodup ∧ ∀ x ∈ xs, x < 3 * (i : Int) - 20)
      ⟨none, [], rfl, p7, b7, e7, rfl, List.nodup_nil, fun x hx => nomatch hx⟩ ?_ ?_⟩
    · rintro i σ G hi ⟨z, xs, rfl, pG, bG, eG, hxl, hxn, hxb⟩
      refine ⟨_, rfl, .inl ⟨rfl, _, SqL.of eG⟩, _, rfl, _, rfl, lk, _, rfl, .inl (SqL.of eG), ?_⟩
      refine ⟨pn, _, rfl, pG, by rw [List.length_map]; lia, by rw [List.length_map]; lia, fun r5 G2 r50 r51 pG2 sG2 => ?_⟩
      rw [List.length_map] at r51
      have eG2 := rm_look sG2 eG hlp
      refine ⟨_, rfl, _, _, rfl, rfl, .inl ⟨by decide, by decide⟩, _, _, rfl, rfl, lk, _, r5, _, rfl, rfl, eG2, r50, by rw [List.length_map]; lia, sizeBig (by rw [List.length_map]; lia), ?_⟩
      obtain ⟨m4, n4, hp4⟩ := id pG2
      have hnot : (3 * (0 + (i : Int)) - 20) ∉ xs := fun z => by have := hxb _ z; lia
      refine ⟨_, xs.take r5.toNat ++ (3 * (0 + (i : Int)) - 20) :: xs.drop r5.toNat, rfl, ⟨m4, n4, by rw [upd_ne hlp.symm]; exact hp4⟩, same_upd ((rm_of bG bp).trans sG2) bl, ?_, ?_, nodup_insert _ hxn hnot, fun x hx => ?_⟩
      · rw [upd_same, List.map_append, List.map_cons, List.map_take, List.map_drop]
      · rw [List.length_append, List.length_cons, List.length_take, List.length_drop]; lia
      · rcases (mem_insert _).mp hx with rfl | hx
        · lia
        · have := hxb x hx; lia
    rintro σ G ⟨z7, xs, rfl, pG, bG, eG, hxl, hxn, _⟩
    have hx16 : xs.length ≤ 16 := by lia
    clear hxl
    have L0 : LI C G pn ps po pw lk (1 + r2) xs .nil .nil .nil := ⟨pG, eG, O3.same (rm_of bG bp), O4.same (rm_of bG bp), O5.same (rm_of bG bp)⟩
    clear O3 O4 O5 b6 b7 e6 e7 p5 p7 s6 s7 n6 bG pG
    refine ⟨_, rfl, lk, rfl, .inl ⟨⟨_, SqL.of eG⟩, for_listN (xs := xs.map V.int) (fun i σ G => ∃ (z8 z9 z10 : Option V) (t to : Tr), σ = [some (.ref a), some (.ref pn), some (.int (1 + r2)), some (.ref ps), some (.ref po), some (.ref pw), some (.ref lk), z7, z8, z9, z10] ∧ LI C G pn ps po pw lk (1 + r2) xs t to t ∧ t.ord none none ∧ to.ord none none ∧ t.size ≤ i ∧ to.size ≤ 3 * i ∧ ∀ y ∈ t.keys, y ∈ xs.take i)
      ⟨none, none, none, .nil, .nil, rfl, L0, trivial, trivial, Nat.le_refl _, Nat.le_refl _, fun y hy => by simp [Tr.keys] at hy⟩ (fun i σ G _ hh => by obtain ⟨_, _, _, _, _, _, L, _⟩ := hh; exact SqL.of L.el) ?_ ?_⟩⟩
    · clear L0 eG
      rintro N B R i yv σ G hy hN _ _ ⟨z8, z9, z10, t, to, rfl, L, ho, hoo, hz, hzo, hsub⟩
      rw [List.getElem?_map] at hy
      obtain ⟨k, hxi, rfl⟩ := Option.map_eq_some_iff.mp hy
      have hil := (List.getElem?_eq_some_iff.mp hxi).1
      have htk : xs.take (i + 1) = xs.take i ++ [k] := by rw [List.take_add_one, hxi]; rfl
      have hnew : k ∉ xs.take i := by
        have h1 : (xs.take (i + 1)).Nodup := hxn.sublist (List.take_sublist _ _)
        rw [htk] at h1
        intro zz
        exact (List.nodup_append.mp h1).2.2 _ zz _ (by simp) rfl
      have hk : k ∉ t.keys := fun zz => hnew (hsub _ zz)
      -- both shelves take the key
      refine ⟨_, rfl, _, rfl, _, rfl, ps, (1 + r2), 0, k, t, rfl, L.s', ho, by lia, .inl rfl, fun G1 t1 s1 S1 W1 => ?_⟩
      refine ⟨_, rfl, ?_⟩
      refine iteF ?_
      have L1 := L.onS s1 S1 d1 d2
      obtain rfl := W1.new hk
      refine ⟨_, rfl, _, rfl, _, rfl, po, (1 + r2), 0, k, to, rfl, L1.o', hoo, by lia, .inl rfl, fun G2 to2 s2 S2 W2 => ?_⟩
      refine ⟨_, rfl, ?_⟩
      refine iteF ?_
      have L2 := L1.onO s2 S2 d1 d3'
      obtain ⟨M2, hz2⟩ := W2.sm hoo (by lia)
      -- the wide one too
      obtain ⟨dw, fw, hpw, hfw⟩ := L2.w'.at
      obtain ⟨xw, yw, Sw, hxw, hyw⟩ := L2.w'
      have Mt : Sm t := ⟨by lia, ho⟩
      refine ⟨_, rfl, pw, dw, fw, rfl, hpw, hfw _ nP, _, rfl, pw, k, (1 + r2) + 1, t, xw, yw, rfl, Sw, Mt, (fun h => absurd h hk), fun _ G3 x3 y3 s3 c3 S3 => ?_⟩
      have his := Tr.ins_size k t
      have Mi : Sm (t.ins k) := ⟨by lia, Tr.ins_ord k t none none ho hk (fun _ z => nomatch z) (fun _ z => nomatch z)⟩
      obtain ⟨hx3, hy3⟩ := c3.len (by lia) (by lia) Mt.nd Mi.nd
      have L3 := L2.onW s3 ⟨x3, y3, S3, hx3, hy3⟩ d2 d3'
      clear L L1 L2 s1 s2 s3 S1 S2 S3 Sw hpw hfw
      refine ⟨_, rfl, pn, 3, rfl, L3.pen, by decide, by decide, fun r4 G4 r40 r41 p4 s4 => ?_⟩
      have L4 := L3.draw s4 p4 hlp
      clear s4 p4 L3
      apply join (fun σ' G' => ∃ (y9 y10 : Option V) (to' : Tr), σ' = [some (.ref a), some (.ref pn), some (.int (1 + r2)), some (.ref ps), some (.ref po), some (.ref pw), some (.ref lk), z7, some (.int k), y9, y10] ∧ LI C G' pn ps po pw lk (1 + r2) xs (t.ins k) to' (t.ins k) ∧ to'.ord none none ∧ to'.size ≤ 3 * i + 3)
      case h2 =>
        intro hj
        refine ⟨_, rfl, ?_⟩
        refine ite2 (fun _ => ?pos) (fun _ => ?neg)
        case neg => exact hj _ _ ⟨_, _, to2, rfl, L4, M2.o, by lia⟩
        case pos =>
          refine ⟨_, rfl, pn, 16, rfl, L4.pen, by decide, by decide, fun r5 G5 r50 r51 p5 s5 => ?_⟩
          have L5 := L4.draw s5 p5 hlp
          refine ⟨_, _, rfl, rfl, .inl ⟨by decide, by decide⟩, _, _, rfl, rfl, ?_⟩
          refine ⟨_, rfl, pn, 2, rfl, L5.pen, by decide, by decide, fun r6 G6 r60 r61 p6 s6 => ?_⟩
          have L6 := L5.draw s6 p6 hlp
          refine ⟨_, rfl, _, rfl, _, rfl, _, rfl, po, (1 + r2), r6, _, to2, rfl, L6.o', M2.o, by lia, by lia, fun G7 to7 s7 S7 W7 => ?_⟩
          refine ⟨_, rfl, ?_⟩
          refine iteF ?_
          have L7 := L6.onO s7 S7 d1 d3'
          obtain ⟨M7, hz7⟩ := W7.sm M2.o (by lia)
          refine ⟨_, rfl, _, rfl, _, rfl, _, _, rfl, rfl, _, rfl, po, (1 + r2), 1 - r6, _, to7, rfl, L7.o', M7.o, by lia, by lia, fun G8 to8 s8 S8 W8 => ?_⟩
          refine ⟨_, rfl, ?_⟩
          refine iteF ?_
          have L8 := L7.onO s8 S8 d1 d3'
          obtain ⟨M8, hz8⟩ := W8.sm M7.o (by lia)
          exact hj _ _ ⟨_, _, to8, rfl, L8, M8.o, by lia⟩
      clear L4 M2 hz2
      rintro σ' G5 ⟨y9, y10, to', rfl, L5, ho', hz'⟩
      -- the wide one is no worse
      obtain ⟨dw, fw, hpw, hfw⟩ := L5.w'.at
      obtain ⟨xw, yw, Sw, hxw, hyw⟩ := L5.w'
      refine ⟨_, rfl, pw, dw, fw, rfl, hpw, hfw _ nW, pw, (1 + r2) + 1, t.ins k, xw, yw, rfl, Sw, Mi, fun G6 s6 => ?_⟩
      have L6 := L5.same s6
      obtain ⟨ds, fs, hps, hfs⟩ := L6.s'.at
      obtain ⟨xs6, ys6, Ss, _⟩ := L6.s'
      refine ⟨_, rfl, ps, ds, fs, rfl, hps, hfs _ nW, ps, (1 + r2), t.ins k, xs6, ys6, rfl, Ss, Mi, fun G7 s7 => ?_⟩
      refine ⟨_, _, rfl, rfl, _, rfl, ?_⟩
      rw [decide_eq_false (show ¬ ((t.ins k).mark (1 + r2)).1 < ((t.ins k).mark ((1 + r2) + 1)).1 by have := lev_room (1 + r2) (t.ins k); lia)]
      refine iteF ?_
      have L7 := L6.same s7
      refine ⟨_, rfl, pw, dw, fw, rfl, (s6.trans s7) _ _ hpw, hfw _ nT, pw, (1 + r2) + 1, t.ins k, xw, yw, rfl, Sw.same (s6.trans s7), fun v1 g1 => ?_⟩
      refine ⟨_, rfl, ps, ds, fs, rfl, s7 _ _ hps, hfs _ nT, ps, (1 + r2), t.ins k, xs6, ys6, rfl, Ss.same s7, fun v2 g2 => ?_⟩
      refine ne_tr g1 g2 (by have := Mi.ht; lia) ?_
      refine ⟨_, rfl, ?_⟩
      refine iteF ?_
      refine hN _ _ ⟨_, _, _, t.ins k, to', rfl, L7, Mi.o, ho', by lia, by lia, fun y hy => ?_⟩
      rw [htk, List.mem_append]
      rcases (Tr.mem_ins _ _ _).mp hy with e | hy
      · exact .inr (by rw [e]; exact List.mem_singleton.mpr rfl)
      · exact .inl (hsub y hy)
    rintro σ G1 ⟨z8, z9, z10, t, to, rfl, L, ho, hoo, hz, hzo, hsub⟩
    rw [List.length_map] at hz hzo
    clear hsub L0 eG
    refine ⟨_, rfl, pn, 6, rfl, L.pen, by decide, by decide, fun r9 G2 r90 r91 p2 s2 => ?_⟩
    have L2 := L.draw s2 p2 hlp
    refine ⟨r9, rfl, by lia, by lia, for_range (n := r9.toNat) (fun i σ G => ∃ (z7 z8 : Option V) (u : Tr), σ = [some (.ref a), some (.ref pn), some (.int (1 + r2)), some (.ref ps), some (.ref po), some (.ref pw), some (.ref lk), z7, z8, z9, z10] ∧ LI C G pn ps po pw lk (1 + r2) xs u to t ∧ u.ord none none ∧ u.size ≤ 16 + i)
      ⟨z7, z8, t, rfl, L2, ho, by lia⟩ ?_ ?_⟩
    · rintro i σ G hi ⟨y7, y8, u, rfl, LG, hu, hzu⟩
      refine ⟨_, rfl, pn, 16, rfl, LG.pen, by decide, by decide, fun r3 G3 r30 r31 p3 s3 => ?_⟩
      have L3 := LG.draw s3 p3 hlp
      refine ⟨_, _, rfl, rfl, .inl ⟨by decide, by decide⟩, _, _, rfl, rfl, ?_⟩
      refine ⟨_, rfl, _, rfl, _, rfl, pn, 2, rfl, L3.pen, by decide, by decide, fun r4 G4 r40 r41 p4 s4 => ?_⟩
      have L4 := L3.draw s4 p4 hlp
      refine ⟨_, rfl, ps, (1 + r2), r4, _, u, rfl, L4.s', hu, by lia, by lia, fun G5 u5 s5 S5 W5 => ?_⟩
      refine ⟨_, rfl, ?_⟩
      refine iteF ?_
      obtain ⟨M5, hz5⟩ := W5.sm hu (by lia)
      exact ⟨_, _, u5, rfl, L4.onS s5 S5 d1 d2, M5.o, by lia⟩
    · rintro σ G ⟨y7, y8, u, rfl, LG, hu, hzu⟩
      obtain ⟨xo, yo, So, _⟩ := LG.o'
      obtain ⟨xw, yw, Sw, _⟩ := LG.w'
      refine ⟨_, rfl, _, rfl, po, (1 + r2), to, xo, yo, rfl, So, ⟨by lia, hoo⟩, fun G5 s5 => ?_⟩
      refine ⟨_, rfl, ?_⟩
      refine iteT ?_
      refine ⟨_, rfl, _, rfl, pw, (1 + r2) + 1, t, xw, yw, rfl, Sw.same s5, ⟨by lia, ho⟩, fun G6 s6 => ?_⟩
      exact q G6
end
end K41C
namespace K41C
open PySem L2 L3 K41
theorem all_mk {l : PySem.W.OpenLaw} {w : World} {K : PySem.W.Frag} {h : Heap} {mg : Str → Option Value} {fa : Addr} (X : K.In h) (G : h.Ns mainGlobals mg) (hfa : mg "law" = some (.ref fa))
    {f0 : Addr} {oc0 kV0 dc0 pm0 cd0 ct0 : Value} {od0 an0 : Option Addr} {sl0 : Array (Option Value)}
    {f1 : Addr} {oc1 kV1 dc1 pm1 cd1 ct1 : Value} {od1 an1 : Option Addr} {sl1 : Array (Option Value)}
    {f2 : Addr} {oc2 kV2 dc2 pm2 cd2 ct2 : Value} {od2 an2 : Option Addr} {sl2 : Array (Option Value)}
    {f3 : Addr} {oc3 kV3 dc3 pm3 cd3 ct3 : Value} {od3 an3 : Option Addr} {sl3 : Array (Option Value)}
    {f4 : Addr} {oc4 kV4 dc4 pm4 cd4 ct4 : Value} {od4 an4 : Option Addr} {sl4 : Array (Option Value)}
    {f5 : Addr} {oc5 kV5 dc5 pm5 cd5 ct5 : Value} {od5 an5 : Option Addr} {sl5 : Array (Option Value)}
    {f6 : Addr} {oc6 kV6 dc6 pm6 cd6 ct6 : Value} {od6 an6 : Option Addr} {sl6 : Array (Option Value)}
    {f7 : Addr} {oc7 kV7 dc7 pm7 cd7 ct7 : Value} {od7 an7 : Option Addr} {sl7 : Array (Option Value)}
    {f8 : Addr} {oc8 kV8 dc8 pm8 cd8 ct8 : Value} {od8 an8 : Option Addr} {sl8 : Array (Option Value)}
    {f9 : Addr} {oc9 kV9 dc9 pm9 cd9 ct9 : Value} {od9 an9 : Option Addr} {sl9 : Array (Option Value)}
    {f10 : Addr} {oc10 kV10 dc10 pm10 cd10 ct10 : Value} {od10 an10 : Option Addr} {sl10 : Array (Option Value)}
    {f11 : Addr} {oc11 kV11 dc11 pm11 cd11 ct11 : Value} {od11 an11 : Option Addr} {sl11 : Array (Option Value)}
    {f12 : Addr} {oc12 kV12 dc12 pm12 cd12 ct12 : Value} {od12 an12 : Option Addr} {sl12 : Array (Option Value)}
    {f13 : Addr} {oc13 kV13 dc13 pm13 cd13 ct13 : Value} {od13 an13 : Option Addr} {sl13 : Array (Option Value)}
    {f14 : Addr} {oc14 kV14 dc14 pm14 cd14 ct14 : Value} {od14 an14 : Option Addr} {sl14 : Array (Option Value)}
    {f15 : Addr} {oc15 kV15 dc15 pm15 cd15 ct15 : Value} {od15 an15 : Option Addr} {sl15 : Array (Option Value)}
    {f16 : Addr} {oc16 kV16 dc16 pm16 cd16 ct16 : Value} {od16 an16 : Option Addr} {sl16 : Array (Option Value)}
    {f17 : Addr} {oc17 kV17 dc17 pm17 cd17 ct17 : Value} {od17 an17 : Option Addr} {sl17 : Array (Option Value)}
    {f18 : Addr} {oc18 kV18 dc18 pm18 cd18 ct18 : Value} {od18 an18 : Option Addr} {sl18 : Array (Option Value)}
    {f19 : Addr} {oc19 kV19 dc19 pm19 cd19 ct19 : Value} {od19 an19 : Option Addr} {sl19 : Array (Option Value)}
    {f20 : Addr} {oc20 kV20 dc20 pm20 cd20 ct20 : Value} {od20 an20 : Option Addr} {sl20 : Array (Option Value)}
    {f21 : Addr} {oc21 kV21 dc21 pm21 cd21 ct21 : Value} {od21 an21 : Option Addr} {sl21 : Array (Option Value)}
    {f22 : Addr} {oc22 kV22 dc22 pm22 cd22 ct22 : Value} {od22 an22 : Option Addr} {sl22 : Array (Option Value)}
    {f23 : Addr} {oc23 kV23 dc23 pm23 cd23 ct23 : Value} {od23 an23 : Option Addr} {sl23 : Array (Option Value)}
    {f24 : Addr} {oc24 kV24 dc24 pm24 cd24 ct24 : Value} {od24 an24 : Option Addr} {sl24 : Array (Option Value)}
    {C_Shelf : Addr}
    {fm0 : Addr} {ocm0 kVm0 dcm0 pmm0 cdm0 ctm0 : Value} {odm0 anm0 : Option Addr} {slm0 : Array (Option Value)}
    {fm1 : Addr} {ocm1 kVm1 dcm1 pmm1 cdm1 ctm1 : Value} {odm1 anm1 : Option Addr} {slm1 : Array (Option Value)}
    {fm2 : Addr} {ocm2 kVm2 dcm2 pmm2 cdm2 ctm2 : Value} {odm2 anm2 : Option Addr} {slm2 : Array (Option Value)}
    {fm3 : Addr} {ocm3 kVm3 dcm3 pmm3 cdm3 ctm3 : Value} {odm3 anm3 : Option Addr} {slm3 : Array (Option Value)}
    {fm4 : Addr} {ocm4 kVm4 dcm4 pmm4 cdm4 ctm4 : Value} {odm4 anm4 : Option Addr} {slm4 : Array (Option Value)}
    {fm5 : Addr} {ocm5 kVm5 dcm5 pmm5 cdm5 ctm5 : Value} {odm5 anm5 : Option Addr} {slm5 : Array (Option Value)}
    {fm6 : Addr} {ocm6 kVm6 dcm6 pmm6 cdm6 ctm6 : Value} {odm6 anm6 : Option Addr} {slm6 : Array (Option Value)}
    {fm7 : Addr} {ocm7 kVm7 dcm7 pmm7 cdm7 ctm7 : Value} {odm7 anm7 : Option Addr} {slm7 : Array (Option Value)}
    {fm8 : Addr} {ocm8 kVm8 dcm8 pmm8 cdm8 ctm8 : Value} {odm8 anm8 : Option Addr} {slm8 : Array (Option Value)}
    {fm9 : Addr} {ocm9 kVm9 dcm9 pmm9 cdm9 ctm9 : Value} {odm9 anm9 : Option Addr} {slm9 : Array (Option Value)}
    (a0 : PySem.W.nsIn K mainGlobals "keys_of" = some (some (.ref f0))) (l0 : K.lookup f0 = some ⟨oc0, od0, .func (PySem.W.fnOf "keys_of" "keys_of" (defArgs s_keys_of) (defBody s_keys_of) (defScope s_keys_of) .none kV0 dc0 pm0 an0 cd0 ct0), sl0⟩) (c0 : PySem.W.codeIn K cd0 "keys_of" = true) (k0 : PySem.W.keepIn K (.ref f0) = true)
    (a1 : PySem.W.nsIn K mainGlobals "with_kids" = some (some (.ref f1))) (l1 : K.lookup f1 = some ⟨oc1, od1, .func (PySem.W.fnOf "with_kids" "with_kids" (defArgs s_with_kids) (defBody s_with_kids) (defScope s_with_kids) .none kV1 dc1 pm1 an1 cd1 ct1), sl1⟩) (c1 : PySem.W.codeIn K cd1 "with_kids" = true) (k1 : PySem.W.keepIn K (.ref f1) = true)
    (a2 : PySem.W.nsIn K mainGlobals "side_towards" = some (some (.ref f2))) (l2 : K.lookup f2 = some ⟨oc2, od2, .func (PySem.W.fnOf "side_towards" "side_towards" (defArgs s_side_towards) (defBody s_side_towards) (defScope s_side_towards) .none kV2 dc2 pm2 an2 cd2 ct2), sl2⟩) (c2 : PySem.W.codeIn K cd2 "side_towards" = true) (k2 : PySem.W.keepIn K (.ref f2) = true)
    (a3 : PySem.W.nsIn K mainGlobals "knot_at" = some (some (.ref f3))) (l3 : K.lookup f3 = some ⟨oc3, od3, .func (PySem.W.fnOf "knot_at" "knot_at" (defArgs s_knot_at) (defBody s_knot_at) (defScope s_knot_at) .none kV3 dc3 pm3 an3 cd3 ct3), sl3⟩) (c3 : PySem.W.codeIn K cd3 "knot_at" = true) (k3 : PySem.W.keepIn K (.ref f3) = true)
    (a4 : PySem.W.nsIn K mainGlobals "with_key" = some (some (.ref f4))) (l4 : K.lookup f4 = some ⟨oc4, od4, .func (PySem.W.fnOf "with_key" "with_key" (defArgs s_with_key) (defBody s_with_key) (defScope s_with_key) .none kV4 dc4 pm4 an4 cd4 ct4), sl4⟩) (c4 : PySem.W.codeIn K cd4 "with_key" = true) (k4 : PySem.W.keepIn K (.ref f4) = true)
    (a5 : PySem.W.nsIn K mainGlobals "put" = some (some (.ref f5))) (l5 : K.lookup f5 = some ⟨oc5, od5, .func (PySem.W.fnOf "put" "put" (defArgs s_put) (defBody s_put) (defScope s_put) .none kV5 dc5 pm5 an5 cd5 ct5), sl5⟩) (c5 : PySem.W.codeIn K cd5 "put" = true) (k5 : PySem.W.keepIn K (.ref f5) = true)
    (a6 : PySem.W.nsIn K mainGlobals "without_key" = some (some (.ref f6))) (l6 : K.lookup f6 = some ⟨oc6, od6, .func (PySem.W.fnOf "without_key" "without_key" (defArgs s_without_key) (defBody s_without_key) (defScope s_without_key) .none kV6 dc6 pm6 an6 cd6 ct6), sl6⟩) (c6 : PySem.W.codeIn K cd6 "without_key" = true) (k6 : PySem.W.keepIn K (.ref f6) = true)
    (a7 : PySem.W.nsIn K mainGlobals "taken" = some (some (.ref f7))) (l7 : K.lookup f7 = some ⟨oc7, od7, .func (PySem.W.fnOf "taken" "taken" (defArgs s_taken) (defBody s_taken) (defScope s_taken) .none kV7 dc7 pm7 an7 cd7 ct7), sl7⟩) (c7 : PySem.W.codeIn K cd7 "taken" = true) (k7 : PySem.W.keepIn K (.ref f7) = true)
    (a8 : PySem.W.nsIn K mainGlobals "pages_tied" = some (some (.ref f8))) (l8 : K.lookup f8 = some ⟨oc8, od8, .func (PySem.W.fnOf "pages_tied" "pages_tied" (defArgs s_pages_tied) (defBody s_pages_tied) (defScope s_pages_tied) .none kV8 dc8 pm8 an8 cd8 ct8), sl8⟩) (c8 : PySem.W.codeIn K cd8 "pages_tied" = true) (k8 : PySem.W.keepIn K (.ref f8) = true)
    (a9 : PySem.W.nsIn K mainGlobals "mark_from" = some (some (.ref f9))) (l9 : K.lookup f9 = some ⟨oc9, od9, .func (PySem.W.fnOf "mark_from" "mark_from" (defArgs s_mark_from) (defBody s_mark_from) (defScope s_mark_from) .none kV9 dc9 pm9 an9 cd9 ct9), sl9⟩) (c9 : PySem.W.codeIn K cd9 "mark_from" = true) (k9 : PySem.W.keepIn K (.ref f9) = true)
    (a10 : PySem.W.nsIn K mainGlobals "marks_by_key" = some (some (.ref f10))) (l10 : K.lookup f10 = some ⟨oc10, od10, .func (PySem.W.fnOf "marks_by_key" "marks_by_key" (defArgs s_marks_by_key) (defBody s_marks_by_key) (defScope s_marks_by_key) .none kV10 dc10 pm10 an10 cd10 ct10), sl10⟩) (c10 : PySem.W.codeIn K cd10 "marks_by_key" = true) (k10 : PySem.W.keepIn K (.ref f10) = true)
    (a11 : PySem.W.nsIn K mainGlobals "marks" = some (some (.ref f11))) (l11 : K.lookup f11 = some ⟨oc11, od11, .func (PySem.W.fnOf "marks" "marks" (defArgs s_marks) (defBody s_marks) (defScope s_marks) .none kV11 dc11 pm11 an11 cd11 ct11), sl11⟩) (c11 : PySem.W.codeIn K cd11 "marks" = true) (k11 : PySem.W.keepIn K (.ref f11) = true)
    (a12 : PySem.W.nsIn K mainGlobals "tied_pairs" = some (some (.ref f12))) (l12 : K.lookup f12 = some ⟨oc12, od12, .func (PySem.W.fnOf "tied_pairs" "tied_pairs" (defArgs s_tied_pairs) (defBody s_tied_pairs) (defScope s_tied_pairs) .none kV12 dc12 pm12 an12 cd12 ct12), sl12⟩) (c12 : PySem.W.codeIn K cd12 "tied_pairs" = true) (k12 : PySem.W.keepIn K (.ref f12) = true)
    (a13 : PySem.W.nsIn K mainGlobals "by_marks" = some (some (.ref f13))) (l13 : K.lookup f13 = some ⟨oc13, od13, .func (PySem.W.fnOf "by_marks" "by_marks" (defArgs s_by_marks) (defBody s_by_marks) (defScope s_by_marks) .none kV13 dc13 pm13 an13 cd13 ct13), sl13⟩) (c13 : PySem.W.codeIn K cd13 "by_marks" = true) (k13 : PySem.W.keepIn K (.ref f13) = true)
    (a14 : PySem.W.nsIn K mainGlobals "top_level" = some (some (.ref f14))) (l14 : K.lookup f14 = some ⟨oc14, od14, .func (PySem.W.fnOf "top_level" "top_level" (defArgs s_top_level) (defBody s_top_level) (defScope s_top_level) .none kV14 dc14 pm14 an14 cd14 ct14), sl14⟩) (c14 : PySem.W.codeIn K cd14 "top_level" = true) (k14 : PySem.W.keepIn K (.ref f14) = true)
    (a15 : PySem.W.nsIn K mainGlobals "worst_by_marks" = some (some (.ref f15))) (l15 : K.lookup f15 = some ⟨oc15, od15, .func (PySem.W.fnOf "worst_by_marks" "worst_by_marks" (defArgs s_worst_by_marks) (defBody s_worst_by_marks) (defScope s_worst_by_marks) .none kV15 dc15 pm15 an15 cd15 ct15), sl15⟩) (c15 : PySem.W.codeIn K cd15 "worst_by_marks" = true) (k15 : PySem.W.keepIn K (.ref f15) = true)
    (a16 : PySem.W.nsIn K mainGlobals "ties" = some (some (.ref f16))) (l16 : K.lookup f16 = some ⟨oc16, od16, .func (PySem.W.fnOf "ties" "ties" (defArgs s_ties) (defBody s_ties) (defScope s_ties) .none kV16 dc16 pm16 an16 cd16 ct16), sl16⟩) (c16 : PySem.W.codeIn K cd16 "ties" = true) (k16 : PySem.W.keepIn K (.ref f16) = true)
    (a17 : PySem.W.nsIn K mainGlobals "come_and_gone" = some (some (.ref f17))) (l17 : K.lookup f17 = some ⟨oc17, od17, .func (PySem.W.fnOf "come_and_gone" "come_and_gone" (defArgs s_come_and_gone) (defBody s_come_and_gone) (defScope s_come_and_gone) .none kV17 dc17 pm17 an17 cd17 ct17), sl17⟩) (c17 : PySem.W.codeIn K cd17 "come_and_gone" = true) (k17 : PySem.W.keepIn K (.ref f17) = true)
    (a18 : PySem.W.nsIn K mainGlobals "_law_pen" = some (some (.ref f18))) (l18 : K.lookup f18 = some ⟨oc18, od18, .func (PySem.W.fnOf "_law_pen" "_law_pen" (defArgs s_law_pen) (defBody s_law_pen) (defScope s_law_pen) .none kV18 dc18 pm18 an18 cd18 ct18), sl18⟩) (c18 : PySem.W.codeIn K cd18 "_law_pen" = true) (k18 : PySem.W.keepIn K (.ref f18) = true)
    (a19 : PySem.W.nsIn K mainGlobals "_law_draw" = some (some (.ref f19))) (l19 : K.lookup f19 = some ⟨oc19, od19, .func (PySem.W.fnOf "_law_draw" "_law_draw" (defArgs s_law_draw) (defBody s_law_draw) (defScope s_law_draw) .none kV19 dc19 pm19 an19 cd19 ct19), sl19⟩) (c19 : PySem.W.codeIn K cd19 "_law_draw" = true) (k19 : PySem.W.keepIn K (.ref f19) = true)
    (a20 : PySem.W.nsIn K mainGlobals "_law_deed" = some (some (.ref f20))) (l20 : K.lookup f20 = some ⟨oc20, od20, .func (PySem.W.fnOf "_law_deed" "_law_deed" (defArgs s_law_deed) (defBody s_law_deed) (defScope s_law_deed) .none kV20 dc20 pm20 an20 cd20 ct20), sl20⟩) (c20 : PySem.W.codeIn K cd20 "_law_deed" = true) (k20 : PySem.W.keepIn K (.ref f20) = true)
    (a21 : PySem.W.nsIn K mainGlobals "_law_led" = some (some (.ref f21))) (l21 : K.lookup f21 = some ⟨oc21, od21, .func (PySem.W.fnOf "_law_led" "_law_led" (defArgs s_law_led) (defBody s_law_led) (defScope s_law_led) .none kV21 dc21 pm21 an21 cd21 ct21), sl21⟩) (c21 : PySem.W.codeIn K cd21 "_law_led" = true) (k21 : PySem.W.keepIn K (.ref f21) = true)
    (a22 : PySem.W.nsIn K mainGlobals "_law_stands" = some (some (.ref f22))) (l22 : K.lookup f22 = some ⟨oc22, od22, .func (PySem.W.fnOf "_law_stands" "_law_stands" (defArgs s_law_stands) (defBody s_law_stands) (defScope s_law_stands) .none kV22 dc22 pm22 an22 cd22 ct22), sl22⟩) (c22 : PySem.W.codeIn K cd22 "_law_stands" = true) (k22 : PySem.W.keepIn K (.ref f22) = true)
    (a23 : PySem.W.nsIn K mainGlobals "_law_step" = some (some (.ref f23))) (l23 : K.lookup f23 = some ⟨oc23, od23, .func (PySem.W.fnOf "_law_step" "_law_step" (defArgs s_law_step) (defBody s_law_step) (defScope s_law_step) .none kV23 dc23 pm23 an23 cd23 ct23), sl23⟩) (c23 : PySem.W.codeIn K cd23 "_law_step" = true) (k23 : PySem.W.keepIn K (.ref f23) = true)
    (a24 : PySem.W.nsIn K mainGlobals "law" = some (some (.ref f24))) (l24 : K.lookup f24 = some ⟨oc24, od24, .func (PySem.W.fnOf "law" "law" (defArgs s_law) (defBody s_law) (defScope s_law) .none kV24 dc24 pm24 an24 cd24 ct24), sl24⟩) (c24 : PySem.W.codeIn K cd24 "law" = true) (k24 : PySem.W.keepIn K (.ref f24) = true)
    (aC_Shelf : PySem.W.nsIn K mainGlobals "Shelf" = some (some (.ref C_Shelf)))
    (pg_Shelf : PySem.W.plainGet K C_Shelf Str.empty = true)
    (hd_Shelf : PySem.W.hasDictIn K C_Shelf = true)
    (po_Shelf : PySem.W.plainOver K C_Shelf = true)
    (sa_Shelf : PySem.W.findIn K (.ref C_Shelf) "__setattr__" = some (some (.builtin "object.__setattr__")))
    (mk_Shelf : PySem.W.makesIn K C_Shelf = true)
    (kc_Shelf : PySem.W.keepIn K (.ref C_Shelf) = true)
    (n_Shelf_room : PySem.W.findIn K (.ref C_Shelf) "room" = some none)
    (n_Shelf_kept : PySem.W.findIn K (.ref C_Shelf) "kept" = some none)
    (n_Shelf_changed : PySem.W.findIn K (.ref C_Shelf) "changed" = some none)
    (am0 : PySem.W.findIn K (.ref C_Shelf) "__init__" = some (some (.ref fm0))) (im0 : PySem.W.isFn K (.ref fm0) = true) (lm0 : K.lookup fm0 = some ⟨ocm0, odm0, .func (PySem.W.fnOf "__init__" "Shelf.__init__" (defArgs s_Shelf___init__) (defBody s_Shelf___init__) (defScope s_Shelf___init__) .none kVm0 dcm0 pmm0 anm0 cdm0 ctm0), slm0⟩) (cm0 : PySem.W.codeIn K cdm0 "Shelf.__init__" = true) (km0 : PySem.W.keepIn K (.ref fm0) = true)
    (am1 : PySem.W.findIn K (.ref C_Shelf) "keep" = some (some (.ref fm1))) (im1 : PySem.W.isFn K (.ref fm1) = true) (lm1 : K.lookup fm1 = some ⟨ocm1, odm1, .func (PySem.W.fnOf "keep" "Shelf.keep" (defArgs s_Shelf_keep) (defBody s_Shelf_keep) (defScope s_Shelf_keep) .none kVm1 dcm1 pmm1 anm1 cdm1 ctm1), slm1⟩) (cm1 : PySem.W.codeIn K cdm1 "Shelf.keep" = true) (km1 : PySem.W.keepIn K (.ref fm1) = true)
    (am2 : PySem.W.findIn K (.ref C_Shelf) "put" = some (some (.ref fm2))) (im2 : PySem.W.isFn K (.ref fm2) = true) (lm2 : K.lookup fm2 = some ⟨ocm2, odm2, .func (PySem.W.fnOf "put" "Shelf.put" (defArgs s_Shelf_put) (defBody s_Shelf_put) (defScope s_Shelf_put) .none kVm2 dcm2 pmm2 anm2 cdm2 ctm2), slm2⟩) (cm2 : PySem.W.codeIn K cdm2 "Shelf.put" = true) (km2 : PySem.W.keepIn K (.ref fm2) = true)
    (am3 : PySem.W.findIn K (.ref C_Shelf) "take" = some (some (.ref fm3))) (im3 : PySem.W.isFn K (.ref fm3) = true) (lm3 : K.lookup fm3 = some ⟨ocm3, odm3, .func (PySem.W.fnOf "take" "Shelf.take" (defArgs s_Shelf_take) (defBody s_Shelf_take) (defScope s_Shelf_take) .none kVm3 dcm3 pmm3 anm3 cdm3 ctm3), slm3⟩) (cm3 : PySem.W.codeIn K cdm3 "Shelf.take" = true) (km3 : PySem.W.keepIn K (.ref fm3) = true)
    (am4 : PySem.W.findIn K (.ref C_Shelf) "tree" = some (some (.ref fm4))) (im4 : PySem.W.isFn K (.ref fm4) = true) (lm4 : K.lookup fm4 = some ⟨ocm4, odm4, .func (PySem.W.fnOf "tree" "Shelf.tree" (defArgs s_Shelf_tree) (defBody s_Shelf_tree) (defScope s_Shelf_tree) .none kVm4 dcm4 pmm4 anm4 cdm4 ctm4), slm4⟩) (cm4 : PySem.W.codeIn K cdm4 "Shelf.tree" = true) (km4 : PySem.W.keepIn K (.ref fm4) = true)
    (am5 : PySem.W.findIn K (.ref C_Shelf) "table" = some (some (.ref fm5))) (im5 : PySem.W.isFn K (.ref fm5) = true) (lm5 : K.lookup fm5 = some ⟨ocm5, odm5, .func (PySem.W.fnOf "table" "Shelf.table" (defArgs s_Shelf_table) (defBody s_Shelf_table) (defScope s_Shelf_table) .none kVm5 dcm5 pmm5 anm5 cdm5 ctm5), slm5⟩) (cm5 : PySem.W.codeIn K cdm5 "Shelf.table" = true) (km5 : PySem.W.keepIn K (.ref fm5) = true)
    (am6 : PySem.W.findIn K (.ref C_Shelf) "layout" = some (some (.ref fm6))) (im6 : PySem.W.isFn K (.ref fm6) = true) (lm6 : K.lookup fm6 = some ⟨ocm6, odm6, .func (PySem.W.fnOf "layout" "Shelf.layout" (defArgs s_Shelf_layout) (defBody s_Shelf_layout) (defScope s_Shelf_layout) .none kVm6 dcm6 pmm6 anm6 cdm6 ctm6), slm6⟩) (cm6 : PySem.W.codeIn K cdm6 "Shelf.layout" = true) (km6 : PySem.W.keepIn K (.ref fm6) = true)
    (am7 : PySem.W.findIn K (.ref C_Shelf) "worst" = some (some (.ref fm7))) (im7 : PySem.W.isFn K (.ref fm7) = true) (lm7 : K.lookup fm7 = some ⟨ocm7, odm7, .func (PySem.W.fnOf "worst" "Shelf.worst" (defArgs s_Shelf_worst) (defBody s_Shelf_worst) (defScope s_Shelf_worst) .none kVm7 dcm7 pmm7 anm7 cdm7 ctm7), slm7⟩) (cm7 : PySem.W.codeIn K cdm7 "Shelf.worst" = true) (km7 : PySem.W.keepIn K (.ref fm7) = true)
    (am8 : PySem.W.findIn K (.ref C_Shelf) "has" = some (some (.ref fm8))) (im8 : PySem.W.isFn K (.ref fm8) = true) (lm8 : K.lookup fm8 = some ⟨ocm8, odm8, .func (PySem.W.fnOf "has" "Shelf.has" (defArgs s_Shelf_has) (defBody s_Shelf_has) (defScope s_Shelf_has) .none kVm8 dcm8 pmm8 anm8 cdm8 ctm8), slm8⟩) (cm8 : PySem.W.codeIn K cdm8 "Shelf.has" = true) (km8 : PySem.W.keepIn K (.ref fm8) = true)
    (am9 : PySem.W.findIn K (.ref C_Shelf) "last" = some (some (.ref fm9))) (im9 : PySem.W.isFn K (.ref fm9) = true) (lm9 : K.lookup fm9 = some ⟨ocm9, odm9, .func (PySem.W.fnOf "last" "Shelf.last" (defArgs s_Shelf_last) (defBody s_Shelf_last) (defScope s_Shelf_last) .none kVm9 dcm9 pmm9 anm9 cdm9 ctm9), slm9⟩) (cm9 : PySem.W.codeIn K cdm9 "Shelf.last" = true) (km9 : PySem.W.keepIn K (.ref fm9) = true)
    (al_put_trees : PySem.W.nsIn K mainGlobals "put_trees" = some (some (.ref f5)))
    (z_len : PySem.W.nsIn K mainGlobals "len" = some none) (z_list : PySem.W.nsIn K mainGlobals "list" = some none) (z_max : PySem.W.nsIn K mainGlobals "max" = some none) (z_range : PySem.W.nsIn K mainGlobals "range" = some none) (z_sorted : PySem.W.nsIn K mainGlobals "sorted" = some none) (z_sum : PySem.W.nsIn K mainGlobals "sum" = some none) {tk_MOST_KEYS : Tok} (z_MOST_KEYS : PySem.W.nsIn K mainGlobals "MOST_KEYS" = some (some (.int 60 tk_MOST_KEYS)))
    {cL cH cF cN : Addr} (xL : PySem.W.nsIn K mainGlobals "LeafError" = some (some (.ref cL))) (xH : PySem.W.nsIn K mainGlobals "There" = some (some (.ref cH))) (xF : PySem.W.nsIn K mainGlobals "Full" = some (some (.ref cF))) (xN : PySem.W.nsIn K mainGlobals "NotThere" = some (some (.ref cN)))
    (oL : PySem.W.excIn K cL [.type "ValueError", .type "Exception", .type "BaseException", .type "object"] "ValueError.__new__" = true) (oH : PySem.W.excIn K cH [.type "ValueError", .type "Exception", .type "BaseException", .type "object"] "ValueError.__new__" = true) (oF : PySem.W.excIn K cF [.type "ValueError", .type "Exception", .type "BaseException", .type "object"] "ValueError.__new__" = true) (oN : PySem.W.excIn K cN [.type "ValueError", .type "Exception", .type "BaseException", .type "object"] "ValueError.__new__" = true)
    (eH : PySem.W.exmOne K (.ref cH) (.ref cL) = some true) (eN : PySem.W.exmOne K (.ref cN) (.ref cL) = some true) :
    ∃ fd : FuncData, (∀ (s : Shared) (v : Value), BindsTo s fd ⟨[v], []⟩ [("_law_script", v)]) ∧ ∀ base : Heap, K.In base → base.Ns mainGlobals mg → FnOk l.prog w K mg base CX0 168 fa fd ["_law_script"] (spLaw K) := by
  have e := hfa.symm.trans (PySem.W.mg_of X G a24)
  cases e
  have F_keys_of : Fd K mg "keys_of" s_keys_of f0 := fd_mk X G a0 l0 c0 k0
  have F_with_kids : Fd K mg "with_kids" s_with_kids f1 := fd_mk X G a1 l1 c1 k1
  have F_side_towards : Fd K mg "side_towards" s_side_towards f2 := fd_mk X G a2 l2 c2 k2
  have F_knot_at : Fd K mg "knot_at" s_knot_at f3 := fd_mk X G a3 l3 c3 k3
  have F_with_key : Fd K mg "with_key" s_with_key f4 := fd_mk X G a4 l4 c4 k4
  have F_put : Fd K mg "put" s_put f5 := fd_mk X G a5 l5 c5 k5
  have F_without_key : Fd K mg "without_key" s_without_key f6 := fd_mk X G a6 l6 c6 k6
  have F_taken : Fd K mg "taken" s_taken f7 := fd_mk X G a7 l7 c7 k7
  have F_pages_tied : Fd K mg "pages_tied" s_pages_tied f8 := fd_mk X G a8 l8 c8 k8
  have F_mark_from : Fd K mg "mark_from" s_mark_from f9 := fd_mk X G a9 l9 c9 k9
  have F_marks_by_key : Fd K mg "marks_by_key" s_marks_by_key f10 := fd_mk X G a10 l10 c10 k10
  have F_marks : Fd K mg "marks" s_marks f11 := fd_mk X G a11 l11 c11 k11
  have F_tied_pairs : Fd K mg "tied_pairs" s_tied_pairs f12 := fd_mk X G a12 l12 c12 k12
  have F_by_marks : Fd K mg "by_marks" s_by_marks f13 := fd_mk X G a13 l13 c13 k13
  have F_top_level : Fd K mg "top_level" s_top_level f14 := fd_mk X G a14 l14 c14 k14
  have F_worst_by_marks : Fd K mg "worst_by_marks" s_worst_by_marks f15 := fd_mk X G a15 l15 c15 k15
  have F_ties : Fd K mg "ties" s_ties f16 := fd_mk X G a16 l16 c16 k16
  have F_come_and_gone : Fd K mg "come_and_gone" s_come_and_gone f17 := fd_mk X G a17 l17 c17 k17
  have F_law_pen : Fd K mg "_law_pen" s_law_pen f18 := fd_mk X G a18 l18 c18 k18
  have F_law_draw : Fd K mg "_law_draw" s_law_draw f19 := fd_mk X G a19 l19 c19 k19
  have F_law_deed : Fd K mg "_law_deed" s_law_deed f20 := fd_mk X G a20 l20 c20 k20
  have F_law_led : Fd K mg "_law_led" s_law_led f21 := fd_mk X G a21 l21 c21 k21
  have F_law_stands : Fd K mg "_law_stands" s_law_stands f22 := fd_mk X G a22 l22 c22 k22
  have F_law_step : Fd K mg "_law_step" s_law_step f23 := fd_mk X G a23 l23 c23 k23
  have cl : Cls K C_Shelf := ⟨pg_Shelf, hd_Shelf, po_Shelf, sa_Shelf⟩
  have F_Shelf___init__ : FdM K C_Shelf "__init__" "Shelf.__init__" s_Shelf___init__ fm0 := fdm_mk am0 im0 lm0 cm0 km0
  have F_Shelf_keep : FdM K C_Shelf "keep" "Shelf.keep" s_Shelf_keep fm1 := fdm_mk am1 im1 lm1 cm1 km1
  have F_Shelf_put : FdM K C_Shelf "put" "Shelf.put" s_Shelf_put fm2 := fdm_mk am2 im2 lm2 cm2 km2
  have F_Shelf_take : FdM K C_Shelf "take" "Shelf.take" s_Shelf_take fm3 := fdm_mk am3 im3 lm3 cm3 km3
  have F_Shelf_tree : FdM K C_Shelf "tree" "Shelf.tree" s_Shelf_tree fm4 := fdm_mk am4 im4 lm4 cm4 km4
  have F_Shelf_table : FdM K C_Shelf "table" "Shelf.table" s_Shelf_table fm5 := fdm_mk am5 im5 lm5 cm5 km5
  have F_Shelf_layout : FdM K C_Shelf "layout" "Shelf.layout" s_Shelf_layout fm6 := fdm_mk am6 im6 lm6 cm6 km6
  have F_Shelf_worst : FdM K C_Shelf "worst" "Shelf.worst" s_Shelf_worst fm7 := fdm_mk am7 im7 lm7 cm7 km7
  have F_Shelf_has : FdM K C_Shelf "has" "Shelf.has" s_Shelf_has fm8 := fdm_mk am8 im8 lm8 cm8 km8
  have F_Shelf_last : FdM K C_Shelf "last" "Shelf.last" s_Shelf_last fm9 := fdm_mk am9 im9 lm9 cm9 km9
  have T : Tx K mg := ⟨PySem.W.mg_none_of X G z_len, PySem.W.mg_none_of X G z_list, PySem.W.mg_none_of X G z_max, PySem.W.mg_none_of X G z_range, PySem.W.mg_none_of X G z_sorted, PySem.W.mg_none_of X G z_sum, ⟨_, PySem.W.mg_of X G z_MOST_KEYS⟩⟩
  refine ⟨PySem.W.fnOf "law" "law" (defArgs s_law) (defBody s_law) (defScope s_law) .none kV24 dc24 pm24 an24 cd24 ct24, fun s v => .of_eq rfl, fun base _ _ => ?_⟩
  have mgo : ∀ {x : Str} {C : Addr}, PySem.W.nsIn K mainGlobals x = some (some (.ref C)) → mg x = some (.ref C) := fun e => PySem.W.mg_of X G e
  have RE : Er K mg cL cH cF cN := ⟨⟨mgo xL, oL⟩, ⟨mgo xH, oH⟩, ⟨mgo xF, oF⟩, ⟨mgo xN, oN⟩, eH, eN⟩
  have N : Nx K C_Shelf := ⟨n_Shelf_room, n_Shelf_kept, n_Shelf_changed⟩
  have C_draw : Cal l.prog w K mg base CX0 1 "_law_draw" spDraw := ok_draw F_law_draw T
  have C_wk : Cal l.prog w K mg base CX0 80 "with_kids" (spWk 80) := ok_wk F_with_kids T 80
  have C_kof2 : Cal l.prog w K mg base CX0 82 "keys_of" (spKof 82) := ok_kof F_keys_of T 82
  have C_fr : Cal l.prog w K mg base CX0 1 "mark_from" spFrom := ok_from F_mark_from T
  have C_top : Cal l.prog w K mg base CX0 1 "top_level" spTop := ok_top F_top_level T
  have C_bk := ok_byKey F_marks_by_key T C_wk C_fr
  have C_mk := ok_marks F_marks T C_bk C_kof2
  have C_td := ok_tied F_tied_pairs T C_wk
  have C_by := ok_by F_by_marks T C_td C_bk (ok_pages F_pages_tied T C_wk)
  have C_wbm := ok_wbm F_worst_by_marks T C_top C_bk
  have C_ties := ok_ties F_ties T C_td C_bk
  have C_cg := ok_cg F_come_and_gone T C_ties
  have C_at : Cal l.prog w K mg base CX0 2 "knot_at" spAt := ok_at F_knot_at T (ok_side F_side_towards T)
  have C_wkey : Cal l.prog w K mg base CX0 80 "with_key" (spPut 80) := ok_wkey F_with_key T 80
  have C_put := ok_putE F_put T RE.eH RE.eF C_at C_kof2 C_wkey
  have C_pt := C_put.alias F_put.at_ (mgo al_put_trees)
  have C_tk := ok_taken F_taken T RE.eN C_at (ok_wo F_without_key T C_kof2 80 (by decide))
  have C_keep := ok_keep F_Shelf_keep cl N T C_cg
  have C_putM := ok_putM F_Shelf_put cl N T C_keep C_pt
  have C_takeM := ok_takeM F_Shelf_take cl N T C_keep C_tk
  have C_tree : CalM l.prog w K mg base CX0 1 C_Shelf "tree" (spTreeM C_Shelf) := ok_treeM F_Shelf_tree cl N T
  have C_last : CalM l.prog w K mg base CX0 1 C_Shelf "last" (spLastM C_Shelf) := ok_lastM F_Shelf_last cl N T
  have C_worst := ok_worstM F_Shelf_worst cl N T C_wbm
  have C_init : CalM l.prog w K mg base CX0 1 C_Shelf "__init__" (spInit C_Shelf) := ok_init F_Shelf___init__ cl N T
  have C_st := ok_stands F_law_stands T C_tree (ok_tableM F_Shelf_table cl N T C_mk) (ok_layM F_Shelf_layout cl N T C_by) C_worst C_mk C_by
  have C_step := ok_step F_law_step T C_tree C_last C_worst (ok_hasM F_Shelf_has cl N T C_at) C_ties (ok_deed F_law_deed T RE C_putM C_takeM) C_st (ok_led F_law_led T)
  exact ok_law (fun_mk l24 c24 k24) T (ok_pen F_law_pen T) C_draw (C_init.make mk_Shelf kc_Shelf (mgo aC_Shelf)) C_putM C_worst C_tree C_step C_st
theorem walk {l : PySem.W.OpenLaw} {q : Program} {loose : List Str} {XP : (Str → Option Value) → Heap → Prop} {YP : World → Heap → Prop} {d : DefRec} {K : Params → PySem.W.Frag} (hn : l.most = some 63) (hdf : d.params.defaults = [])
    (hY : ∀ (w : World) (h : Heap), YP w h → (K w.params).In h)
    (F : ∀ (w : World) (mg : Str → Option Value) (fa : Addr) (h : Heap), (K w.params).In h → h.Ns mainGlobals mg → mg d.name = some (.ref fa) →
      ∃ fd : FuncData, (∀ (s : Shared) (u : Value), BindsTo s fd ⟨[u], []⟩ [("_law_script", u)]) ∧ ∀ base : Heap, (K w.params).In base → base.Ns mainGlobals mg → FnOk l.prog w (K w.params) mg base CX0 168 fa fd ["_law_script"] (spLaw (K w.params))) :
    PySem.W.WalkO q loose XP YP l.row.toRowW d [] (fun f vs => PySem.call f vs) :=
  L2.walk_of (n := 63) (k := 168) (x := "_law_script") (CX := fun _ => CX0) (sp := fun w => spLaw (K w.params)) hn (by decide) hdf ⟨rfl, by decide, by decide, rfl⟩ hY F (fun _ _ a ns hl _ hS => ⟨a, ns, rfl, hS, hl, fun _ => rfl⟩) fun _ _ _ _ _ z => z
end K41C
open PySem PySem.W PyProof.Rows
set_option maxRecDepth 100000 in
set_option maxHeartbeats 0 in
theorem PySem.Challenge.cw_leafpages_k41_whole_as_made_anew_holds : PySem.Challenge.rw_leafpages_k41_whole_as_made_anew.Holds := by
  w_on; o_law; k_head; (case hw => w_witness2)
  k_fill
  refine K41C.walk (l := PySem.Challenge.rw_leafpages_k41_whole_as_made_anew) rfl rfl (fun w h Y => PySem.W.kIn_of Y) ?F
  case F =>
    intro w mg fa h KX G hmg
    refine' K41C.all_mk KX G hmg ?a0 ?l0 ?c0 ?k0 ?a1 ?l1 ?c1 ?k1 ?a2 ?l2 ?c2 ?k2 ?a3 ?l3 ?c3 ?k3 ?a4 ?l4 ?c4 ?k4 ?a5 ?l5 ?c5 ?k5 ?a6 ?l6 ?c6 ?k6 ?a7 ?l7 ?c7 ?k7 ?a8 ?l8 ?c8 ?k8 ?a9 ?l9 ?c9 ?k9 ?a10 ?l10 ?c10 ?k10 ?a11 ?l11 ?c11 ?k11 ?a12 ?l12 ?c12 ?k12 ?a13 ?l13 ?c13 ?k13 ?a14 ?l14 ?c14 ?k14 ?a15 ?l15 ?c15 ?k15 ?a16 ?l16 ?c16 ?k16 ?a17 ?l17 ?c17 ?k17 ?a18 ?l18 ?c18 ?k18 ?a19 ?l19 ?c19 ?k19 ?a20 ?l20 ?c20 ?k20 ?a21 ?l21 ?c21 ?k21 ?a22 ?l22 ?c22 ?k22 ?a23 ?l23 ?c23 ?k23 ?a24 ?l24 ?c24 ?k24 ?aC_Shelf ?pg_Shelf ?hd_Shelf ?po_Shelf ?sa_Shelf ?mk_Shelf ?kc_Shelf ?n_Shelf_room ?n_Shelf_kept ?n_Shelf_changed ?am0 ?im0 ?lm0 ?cm0 ?km0 ?am1 ?im1 ?lm1 ?cm1 ?km1 ?am2 ?im2 ?lm2 ?cm2 ?km2 ?am3 ?im3 ?lm3 ?cm3 ?km3 ?am4 ?im4 ?lm4 ?cm4 ?km4 ?am5 ?im5 ?lm5 ?cm5 ?km5 ?am6 ?im6 ?lm6 ?cm6 ?km6 ?am7 ?im7 ?lm7 ?cm7 ?km7 ?am8 ?im8 ?lm8 ?cm8 ?km8 ?am9 ?im9 ?lm9 ?cm9 ?km9 ?al_put_trees ?z_len ?z_list ?z_max ?z_range ?z_sorted ?z_sum ?z_MOST_KEYS ?xL ?xH ?xF ?xN ?oL ?oH ?oF ?oN ?eH ?eN
    (case a0 => k_is)
    (case l0 => k_is)
    (case c0 => k_is)
    (case k0 => k_is)
    (case a1 => k_is)
    (case l1 => k_is)
    (case c1 => k_is)
    (case k1 => k_is)
    (case a2 => k_is)
    (case l2 => k_is)
    (case c2 => k_is)
    (case k2 => k_is)
    (case a3 => k_is)
    (case l3 => k_is)
    (case c3 => k_is)
    (case k3 => k_is)
    (case a4 => k_is)
    (case l4 => k_is)
    (case c4 => k_is)
    (case k4 => k_is)
    (case a5 => k_is)
    (case l5 => k_is)
    (case c5 => k_is)
    (case k5 => k_is)
    (case a6 => k_is)
    (case l6 => k_is)
    (case c6 => k_is)
    (case k6 => k_is)
    (case a7 => k_is)
    (case l7 => k_is)
    (case c7 => k_is)
    (case k7 => k_is)
    (case a8 => k_is)
    (case l8 => k_is)
    (case c8 => k_is)
    (case k8 => k_is)
    (case a9 => k_is)
    (case l9 => k_is)
    (case c9 => k_is)
    (case k9 => k_is)
    (case a10 => k_is)
    (case l10 => k_is)
    (case c10 => k_is)
    (case k10 => k_is)
    (case a11 => k_is)
    (case l11 => k_is)
    (case c11 => k_is)
    (case k11 => k_is)
    (case a12 => k_is)
    (case l12 => k_is)
    (case c12 => k_is)
    (case k12 => k_is)
    (case a13 => k_is)
    (case l13 => k_is)
    (case c13 => k_is)
    (case k13 => k_is)
    (case a14 => k_is)
    (case l14 => k_is)
    (case c14 => k_is)
    (case k14 => k_is)
    (case a15 => k_is)
    (case l15 => k_is)
    (case c15 => k_is)
    (case k15 => k_is)
    (case a16 => k_is)
    (case l16 => k_is)
    (case c16 => k_is)
    (case k16 => k_is)
    (case a17 => k_is)
    (case l17 => k_is)
    (case c17 => k_is)
    (case k17 => k_is)
    (case a18 => k_is)
    (case l18 => k_is)
    (case c18 => k_is)
    (case k18 => k_is)
    (case a19 => k_is)
    (case l19 => k_is)
    (case c19 => k_is)
    (case k19 => k_is)
    (case a20 => k_is)
    (case l20 => k_is)
    (case c20 => k_is)
    (case k20 => k_is)
    (case a21 => k_is)
    (case l21 => k_is)
    (case c21 => k_is)
    (case k21 => k_is)
    (case a22 => k_is)
    (case l22 => k_is)
    (case c22 => k_is)
    (case k22 => k_is)
    (case a23 => k_is)
    (case l23 => k_is)
    (case c23 => k_is)
    (case k23 => k_is)
    (case a24 => k_is)
    (case l24 => k_is)
    (case c24 => k_is)
    (case k24 => k_is)
    (case aC_Shelf => k_is)
    (case pg_Shelf => k_is)
    (case hd_Shelf => k_is)
    (case po_Shelf => k_is)
    (case sa_Shelf => k_is)
    (case mk_Shelf => k_is)
    (case kc_Shelf => k_is)
    (case n_Shelf_room => k_is)
    (case n_Shelf_kept => k_is)
    (case n_Shelf_changed => k_is)
    (case am0 => k_is)
    (case im0 => k_is)
    (case lm0 => k_is)
    (case cm0 => k_is)
    (case km0 => k_is)
    (case am1 => k_is)
    (case im1 => k_is)
    (case lm1 => k_is)
    (case cm1 => k_is)
    (case km1 => k_is)
    (case am2 => k_is)
    (case im2 => k_is)
    (case lm2 => k_is)
    (case cm2 => k_is)
    (case km2 => k_is)
    (case am3 => k_is)
    (case im3 => k_is)
    (case lm3 => k_is)
    (case cm3 => k_is)
    (case km3 => k_is)
    (case am4 => k_is)
    (case im4 => k_is)
    (case lm4 => k_is)
    (case cm4 => k_is)
    (case km4 => k_is)
    (case am5 => k_is)
    (case im5 => k_is)
    (case lm5 => k_is)
    (case cm5 => k_is)
    (case km5 => k_is)
    (case am6 => k_is)
    (case im6 => k_is)
    (case lm6 => k_is)
    (case cm6 => k_is)
    (case km6 => k_is)
    (case am7 => k_is)
    (case im7 => k_is)
    (case lm7 => k_is)
    (case cm7 => k_is)
    (case km7 => k_is)
    (case am8 => k_is)
    (case im8 => k_is)
    (case lm8 => k_is)
    (case cm8 => k_is)
    (case km8 => k_is)
    (case am9 => k_is)
    (case im9 => k_is)
    (case lm9 => k_is)
    (case cm9 => k_is)
    (case km9 => k_is)
    (case al_put_trees => k_is)
    (case z_len => k_is)
    (case z_list => k_is)
    (case z_max => k_is)
    (case z_range => k_is)
    (case z_sorted => k_is)
    (case z_sum => k_is)
    (case z_MOST_KEYS => k_is)
    (case xL => k_is)
    (case xH => k_is)
    (case xF => k_is)
    (case xN => k_is)
    (case oL => kernel_rfl)
    (case oH => kernel_rfl)
    (case oF => kernel_rfl)
    (case oN => kernel_rfl)
    (case eH => kernel_rfl)
    (case eN => kernel_rfl)
