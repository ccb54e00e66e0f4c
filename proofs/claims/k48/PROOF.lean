import PyProof.Rows.All
import Wide.All
import OpenK.AllK
import Wide.FinOn
import Lean
import PyProof.EqAt
import PyProof.EqKinds
import PyProof.TupleCall
import PyProof.NeKinds
import PyProof.Rows.SumAny
import PyProof.Rows.SortWalk
import PyProof.WalksEnum
import PyProof.AttrMissHeap
import KE.KDictOf
import PyProof.DictWalks
import KE.KRevIter
import PyProof.Rows.SeqMore2
import Wide.Seal
import KE.KDictList
import PyProof.ZipIter
import PyProof.TupleIter
import PyProof.ListMulRoad
import PyProof.TupleOps
import PyProof.FactsAll.tuple
import PyProof.Rows.CallKwBuiltin
import PyProof.WalkInts
import PyProof.DictValues
import PyProof.Rows.SetFrom
import PyProof.SetRoads
import KE.KIntText
import PyProof.SliceStr2
import PyProof.StrLawsIdx
import PyProof.StrLawsTight
import PyProof.StrCalls2
import PyProof.StrLoop
import PyProof.StrWalks
import PyProof.FitsReplace
import PyProof.Rows.FStr
import PyProof.Rows.StrNews2
import PyProof.Rows.StrLawsPart
import KE.KSortTup
import KE.KEqDict
import OpenK.KCell
import KE.KNest
import KE.KDictSum
import PySem.Challenge.RW_leafpages_k48_texts_refused
set_option bootstrap.genMatcherCode false
set_option Elab.async false
set_option linter.all false
set_option maxRecDepth 100000
set_option maxHeartbeats 4000000
namespace L3
open PySem
theorem lcons {P : List Value → Prop} {n : Nat} (h : ∀ (a : Value) (us : List Value), us.length = n → P (a :: us)) : ∀ us : List Value, us.length = n + 1 → P us := fun us hl => by
  cases us with
  | nil => cases hl
  | cons a us => exact h a us (Nat.succ.inj hl)
theorem lnone {P : List Value → Prop} (h : P []) : ∀ us : List Value, us.length = 0 → P us := fun us hl => by
  cases us with
  | nil => exact h
  | cons a us => cases hl
theorem bind1 {fd : FuncData} {s : Str} (h : ∀ a : Value, bindArgs fd ⟨[a], []⟩ = pure ([s].zip [a])) : ∀ us : List Value, us.length = 1 → bindArgs fd ⟨us, []⟩ = pure ([s].zip us) :=
  lcons (P := fun us => bindArgs fd ⟨us, []⟩ = pure ([s].zip (us))) fun a => lnone (P := fun us => bindArgs fd ⟨a :: us, []⟩ = pure ([s].zip (a :: us))) (h a)
theorem bind2 {fd : FuncData} {s t : Str} (h : ∀ a b : Value, bindArgs fd ⟨[a, b], []⟩ = pure ([s, t].zip [a, b])) : ∀ us : List Value, us.length = 2 → bindArgs fd ⟨us, []⟩ = pure ([s, t].zip us) :=
  lcons (P := fun us => bindArgs fd ⟨us, []⟩ = pure ([s, t].zip (us))) fun a => lcons (P := fun us => bindArgs fd ⟨a :: us, []⟩ = pure ([s, t].zip (a :: us))) fun b => lnone (P := fun us => bindArgs fd ⟨a :: b :: us, []⟩ = pure ([s, t].zip (a :: b :: us))) (h a b)
theorem bind3 {fd : FuncData} {s t u : Str} (h : ∀ a b c : Value, bindArgs fd ⟨[a, b, c], []⟩ = pure ([s, t, u].zip [a, b, c])) : ∀ us : List Value, us.length = 3 → bindArgs fd ⟨us, []⟩ = pure ([s, t, u].zip us) :=
  lcons (P := fun us => bindArgs fd ⟨us, []⟩ = pure ([s, t, u].zip (us))) fun a => lcons (P := fun us => bindArgs fd ⟨a :: us, []⟩ = pure ([s, t, u].zip (a :: us))) fun b => lcons (P := fun us => bindArgs fd ⟨a :: b :: us, []⟩ = pure ([s, t, u].zip (a :: b :: us))) fun c => lnone (P := fun us => bindArgs fd ⟨a :: b :: c :: us, []⟩ = pure ([s, t, u].zip (a :: b :: c :: us))) (h a b c)
theorem bind4 {fd : FuncData} {s t u v : Str} (h : ∀ a b c d : Value, bindArgs fd ⟨[a, b, c, d], []⟩ = pure ([s, t, u, v].zip [a, b, c, d])) : ∀ us : List Value, us.length = 4 → bindArgs fd ⟨us, []⟩ = pure ([s, t, u, v].zip us) :=
  lcons (P := fun us => bindArgs fd ⟨us, []⟩ = pure ([s, t, u, v].zip (us))) fun a => lcons (P := fun us => bindArgs fd ⟨a :: us, []⟩ = pure ([s, t, u, v].zip (a :: us))) fun b => lcons (P := fun us => bindArgs fd ⟨a :: b :: us, []⟩ = pure ([s, t, u, v].zip (a :: b :: us))) fun c => lcons (P := fun us => bindArgs fd ⟨a :: b :: c :: us, []⟩ = pure ([s, t, u, v].zip (a :: b :: c :: us))) fun d => lnone (P := fun us => bindArgs fd ⟨a :: b :: c :: d :: us, []⟩ = pure ([s, t, u, v].zip (a :: b :: c :: d :: us))) (h a b c d)
theorem bind5 {fd : FuncData} {s t u v w : Str} (h : ∀ a b c d e : Value, bindArgs fd ⟨[a, b, c, d, e], []⟩ = pure ([s, t, u, v, w].zip [a, b, c, d, e])) : ∀ us : List Value, us.length = 5 → bindArgs fd ⟨us, []⟩ = pure ([s, t, u, v, w].zip us) :=
  lcons (P := fun us => bindArgs fd ⟨us, []⟩ = pure ([s, t, u, v, w].zip (us))) fun a => lcons (P := fun us => bindArgs fd ⟨a :: us, []⟩ = pure ([s, t, u, v, w].zip (a :: us))) fun b => lcons (P := fun us => bindArgs fd ⟨a :: b :: us, []⟩ = pure ([s, t, u, v, w].zip (a :: b :: us))) fun c => lcons (P := fun us => bindArgs fd ⟨a :: b :: c :: us, []⟩ = pure ([s, t, u, v, w].zip (a :: b :: c :: us))) fun d => lcons (P := fun us => bindArgs fd ⟨a :: b :: c :: d :: us, []⟩ = pure ([s, t, u, v, w].zip (a :: b :: c :: d :: us))) fun e => lnone (P := fun us => bindArgs fd ⟨a :: b :: c :: d :: e :: us, []⟩ = pure ([s, t, u, v, w].zip (a :: b :: c :: d :: e :: us))) (h a b c d e)
end L3
namespace L2
open PySem PySem.Spec PyProof.Rows
noncomputable abbrev Key := Sum Int Str
noncomputable def keyIs : Key → Value → Bool
  | .inl k, v => Value.isInt k v
  | .inr x, v => Value.isStrOf x v
noncomputable def keyH (w : World) : Key → Int
  | .inl k => hashInt k
  | .inr x => hashStr w x
theorem keyIs_shape : ∀ {k : Key} {v : Value}, keyIs k v = true → (∃ i t, k = Sum.inl i ∧ v = Value.int i t) ∨ (∃ x t, k = Sum.inr x ∧ v = Value.str x t)
  | .inl i, v, h => by
    obtain ⟨t, e⟩ := Value.isInt_shape (k := i) (v := v) h
    exact .inl ⟨i, t, rfl, e⟩
  | .inr x, v, h => by
    obtain ⟨t, e⟩ := Value.isStrOf_shape (x := x) (v := v) h
    exact .inr ⟨x, t, rfl, e⟩
theorem key_ll (a b : Int) : decide ((Sum.inl a : Key) = Sum.inl b) = (a == b) := by
  by_cases e : a = b
  · subst e; simp
  · have h : ¬ (Sum.inl a : Key) = Sum.inl b := fun q => e (Sum.inl.inj q)
    rw [decide_eq_false h]
    exact (beq_eq_false_iff_ne.mpr e).symm
theorem key_rr (a b : Str) : decide ((Sum.inr a : Key) = Sum.inr b) = decide (a = b) := by
  by_cases e : a = b
  · subst e; simp
  · have h : ¬ (Sum.inr a : Key) = Sum.inr b := fun q => e (Sum.inr.inj q)
    rw [decide_eq_false h, decide_eq_false e]
theorem key_lr (a : Int) (b : Str) : decide ((Sum.inl a : Key) = Sum.inr b) = false := decide_eq_false (fun q => nomatch q)
theorem key_rl (a : Str) (b : Int) : decide ((Sum.inr a : Key) = Sum.inl b) = false := decide_eq_false (fun q => nomatch q)
noncomputable def mixKind (prog : Program) (w : World) : PySem.KeyKind prog w Key where
  is := keyIs
  hash := keyH w
  inj := fun v a b ha hb => by
    rcases keyIs_shape ha with ⟨i, t, rfl, rfl⟩ | ⟨x, t, rfl, rfl⟩
    · rcases keyIs_shape hb with ⟨j, u, rfl, e⟩ | ⟨y, u, rfl, e⟩
      · injection e with e1 _; rw [e1]
      · exact nomatch e
    · rcases keyIs_shape hb with ⟨j, u, rfl, e⟩ | ⟨y, u, rfl, e⟩
      · exact nomatch e
      · injection e with e1 _; rw [e1]
  byValue := fun k v h => by
    rcases keyIs_shape h with ⟨i, t, rfl, rfl⟩ | ⟨x, t, rfl, rfl⟩ <;> rfl
  pyHash := fun hv h => by
    rcases keyIs_shape hv with ⟨i, t, rfl, rfl⟩ | ⟨x, t, rfl, rfl⟩
    · exact wpAny_pyHash_int h
    · exact wpAny_pyHash_str h
  eqBool := fun hu hv h => by
    rcases keyIs_shape hu with ⟨i, t, rfl, rfl⟩ | ⟨x, t, rfl, rfl⟩
    · rcases keyIs_shape hv with ⟨j, u, rfl, rfl⟩ | ⟨y, u, rfl, rfl⟩
      · rw [key_ll] at h; exact wpAny_eqBool_int h
      · rw [key_lr] at h; exact SeqAt.EqAt.int_str i t y u _ _ _ _ h
    · rcases keyIs_shape hv with ⟨j, u, rfl, rfl⟩ | ⟨y, u, rfl, rfl⟩
      · rw [key_rl] at h; exact SeqAt.EqAt.str_int x t j u _ _ _ _ h
      · rw [key_rr] at h; exact wpAny_eqBool_str h
  «strs» := fun k x t v h => by
    rcases keyIs_shape h with ⟨i, u, rfl, e⟩ | ⟨y, u, rfl, e⟩
    · exact nomatch e
    · injection e with e1 _
      subst e1
      cases v <;> rfl
end L2
namespace L2
open PySem PySem.Spec PyProof.Rows
inductive V where
  | non | bl (b : Bool) | int (i : Int) | str (x : Str) | byt (b : Array UInt8) | flt (b : UInt64) | ref (a : Addr) | ty (n : String)
  deriving DecidableEq
noncomputable def RelV : V → Value → Prop
  | .non, u => u = Value.none
  | .bl b, u => u = Value.bool b
  | .int i, u => ∃ t, u = Value.int i t
  | .str x, u => ∃ t, u = Value.str x t
  | .byt b, u => ∃ t, u = Value.bytes b t
  | .flt b, u => ∃ t, u = Value.float b t
  | .ref a, u => u = Value.ref a
  | .ty n, u => u = Value.type n
noncomputable abbrev Vals : List V → List Value → Prop := Paired RelV
theorem Vals.length {xs : List V} {us : List Value} (r : Vals xs us) : xs.length = us.length := Paired.length r
theorem Vals.get : ∀ {xs : List V} {us : List Value} {i : Nat} {x : V}, Vals xs us → xs[i]? = some x → ∃ u, us[i]? = some u ∧ RelV x u
  | _, _, _, _, .nil, e => by simp at e
  | _, _, 0, _, .cons r _, e => by simp at e; subst e; exact ⟨_, rfl, r⟩
  | _, _, i + 1, x, .cons _ t, e => by
    obtain ⟨u, h1, h2⟩ := Vals.get (i := i) (x := x) t (by simpa using e)
    exact ⟨u, by simpa using h1, h2⟩
theorem Vals.set {x : V} {u : Value} (r : RelV x u) : ∀ {xs : List V} {us : List Value} (i : Nat), Vals xs us → Vals (xs.set i x) (us.set i u)
  | _, _, _, .nil => .nil
  | _, _, 0, .cons _ t => .cons r t
  | _, _, i + 1, .cons q t => .cons q (Vals.set r i t)
theorem Vals.append : ∀ {xs ys : List V} {us ws : List Value}, Vals xs us → Vals ys ws → Vals (xs ++ ys) (us ++ ws)
  | _, _, _, _, .nil, s => s
  | _, _, _, _, .cons r t, s => .cons r (Vals.append t s)
theorem Vals.take : ∀ {xs : List V} {us : List Value} (n : Nat), Vals xs us → Vals (xs.take n) (us.take n)
  | _, _, 0, _ => .nil
  | _, _, _ + 1, .nil => .nil
  | _, _, n + 1, .cons r t => .cons r (Vals.take n t)
theorem Vals.drop : ∀ {xs : List V} {us : List Value} (n : Nat), Vals xs us → Vals (xs.drop n) (us.drop n)
  | _, _, 0, r => r
  | _, _, _ + 1, .nil => .nil
  | _, _, n + 1, .cons _ t => Vals.drop n t
noncomputable def RelO : Option V → Option Value → Prop
  | some v, some u => RelV v u
  | none, none => True
  | _, _ => False
noncomputable def KV {κ : Type} : List (κ × V) → List (κ × Value) → Prop := Paired fun (p : κ × V) (q : κ × Value) => p.1 = q.1 ∧ RelV p.2 q.2
noncomputable def kV : Key → V
  | .inl i => .int i
  | .inr x => .str x
inductive HO where
  /-- a list -/
  | lst (xs : List V)
  /-- a tuple (never changes) -/
  | tup (xs : List V)
  /-- a dict whose keys are ints and texts; one whose keys are tuples of ints and texts (the empty one is both) -/
  | dK (kvs : List (Key × V)) | dT (kvs : List (List Key × V))
  /-- a set of ints: its members, its size -/
  | set (S : Int → Bool) (n : Nat)
  /-- an instance of the class at C, its dict at dx, its attributes -/
  | ins (C dx : Addr) (fs : List (Str × V))
  /-- the dict of the instance at x -/
  | own (x : Addr)
  /-- the dict of an exception -/
  | xd (fs : List (Str × V))
  /-- a bound method, f of x -/
  | met (f x : Addr)
  /-- a range object lo, lo + 1, .. below hi -/
  | rng (lo hi : Int)
  /-- a thing that is known to the object (the script; a dict while a loop walks it): read, never written while it is so -/
  | frz (o : Obj) (u : HO)
  /-- a code object's table -/
  | tbl (ps : Array Value)
  /-- any other thing, by what is true of its one object (a def of one's own: SetO a S n := HO.ext fun h => ..) -/
  | ext (φ : Heap → Prop)
noncomputable abbrev Hp := Addr → Option HO
noncomputable def upd (H : Hp) (a : Addr) (o : HO) : Hp := fun b => if b = a then some o else H b
theorem upd_same {H : Hp} {a : Addr} {o : HO} : upd H a o a = some o := by unfold upd; rw [if_pos rfl]
theorem upd_ne {H : Hp} {a b : Addr} {o : HO} (h : b ≠ a) : upd H a o b = H b := by unfold upd; rw [if_neg h]
theorem ne_of_none {H : Hp} {a b : Addr} {o : HO} (h : H a = some o) (h' : H b = none) : a ≠ b := by
  intro e; subst e; rw [h] at h'; cases h'
section
variable (P : Program) (w : World)
noncomputable def ObjOk (H : Hp) (h : Heap) (a : Addr) : HO → Prop
  | .lst xs => xs.length ≤ sizeLine ∧ ∃ (its : List Value) (n : Nat), Vals xs its ∧ h.get? a = some { cls := .type "list", data := .seq its.toArray n }
  | .tup xs => xs.length ≤ sizeLine ∧ ∃ its : List Value, Vals xs its ∧ IsTup h a its.toArray
  | .dK kvs => kvs.length ≤ sizeLine ∧ (a == sysModules) = false ∧ ∃ vs, KV kvs vs ∧ h.DictOf (mixKind P w) a vs
  | .dT kvs => kvs.length ≤ sizeLine ∧ (a == sysModules) = false ∧ ∃ xs : List (List Key × Addr × Value),
      Paired (fun (p : List Key × V) (q : List Key × Addr × Value) => p.1 = q.1 ∧ H q.2.1 = some (.tup (p.1.map kV)) ∧ RelV p.2 q.2.2) kvs xs ∧
      ∃ o es ep, h.get? a = some o ∧ o.ExactDict ∧ o.data = .dict es ep ∧ es.toList = xs.map (entryOfKey (tupleKind (mixKind P w))) ∧ (xs.map (·.1)).Nodup
  | .set S n => h.SetOf (intKind P w) a S n
  | .ins C dx fs => H dx = some (.own a) ∧ fs.length ≤ 1000 ∧ dx ≠ a ∧ h.get? a = some (PySem.W.instObj C dx) ∧
      ∃ mA, h.Ns1 dx mA ∧ (∀ f, RelO (fs.lookup f) (mA f)) ∧ PySem.Within mA (fs.map (·.1))
  | .own _ => ∃ o, h.get? a = some o
  | .xd fs => ∃ mA, h.Ns1 a mA ∧ ∀ f, RelO (fs.lookup f) (mA f)
  | .rng lo hi => ∃ t u v, h.get? a = some { cls := .type "range", data := .fields #[.int lo t, .int hi u, .int 1 v] }
  | .frz o u => h.get? a = some o ∧ ObjOk H h a u
  | .tbl ps => h.get? a = some { cls := .none, data := .fields ps }
  | .met f x => h.get? a = some (PySem.W.methodObj (.ref f) (.ref x))
  | .ext φ => φ h ∧ (∃ o, h.get? a = some o) ∧ ∀ h1 h2 : Heap, φ h1 → (∀ o, h1.get? a = some o → h2.get? a = some o) → φ h2
noncomputable def HOk (H : Hp) (h : Heap) : Prop := ∀ a o, H a = some o → ObjOk P w H h a o
end
section
variable {P : Program} {w : World} {H H' : Hp} {h h' : Heap} {a : Addr} {o : HO}
theorem ObjOk.lt (x : ObjOk P w H h a o) : a < h.objs.size := by
  cases o with
  | lst xs => obtain ⟨_, _, _, _, e⟩ := x; exact Heap.lt_size e
  | tup xs => obtain ⟨_, _, _, p⟩ := x; exact p.lt
  | dK kvs => obtain ⟨_, _, _, _, o, _, _, e, _⟩ := x; exact Heap.lt_size e
  | dT kvs => obtain ⟨_, _, _, _, o, _, _, e, _⟩ := x; exact Heap.lt_size e
  | set S n => obtain ⟨o, _, _, _, e, _⟩ := x; exact Heap.lt_size e
  | ins C dx fs => obtain ⟨_, _, _, e, _⟩ := x; exact Heap.lt_size e
  | own y => obtain ⟨_, e⟩ := x; exact Heap.lt_size e
  | xd fs => obtain ⟨_, ⟨_, _, _, e, _⟩, _⟩ := x; exact Heap.lt_size e
  | rng lo hi => obtain ⟨_, _, _, e⟩ := x; exact Heap.lt_size e
  | frz ob u => obtain ⟨e, _⟩ := x; exact Heap.lt_size e
  | tbl ps => exact Heap.lt_size (show h.get? a = some _ from x)
  | met f y => exact Heap.lt_size (show h.get? a = some _ from x)
  | ext φ => obtain ⟨_, ⟨_, e⟩, _⟩ := x; exact Heap.lt_size e
theorem Paired.mapP {α β : Type} {F G : α → β → Prop} : ∀ {l₁ : List α} {l₂ : List β}, Paired F l₁ l₂ → (∀ a b, F a b → G a b) → Paired G l₁ l₂
  := fun h f => by
  induction h with
  | nil => exact .nil
  | cons r _ ih => exact .cons (f _ _ r) ih
theorem ObjOk.stay (x : ObjOk P w H h a o) (k : ∀ b u, (b = a ∨ H b = some (.own a)) → h.get? b = some u → h'.get? b = some u)
    (ho : ∀ b, H b = some (.own a) → H' b = some (.own a)) (ht : ∀ b xs, H b = some (.tup xs) → H' b = some (.tup xs)) : ObjOk P w H' h' a o := by
  induction o with
  | lst xs => obtain ⟨z, its, n, r, e⟩ := x; exact ⟨z, its, n, r, k _ _ (.inl rfl) e⟩
  | tup xs => obtain ⟨z, its, r, ob, e, c⟩ := x; exact ⟨z, its, r, ob, k _ _ (.inl rfl) e, c⟩
  | dK kvs => obtain ⟨z, y, vs, r, ob, es, ep, e, c⟩ := x; exact ⟨z, y, vs, r, ob, es, ep, k _ _ (.inl rfl) e, c⟩
  | dT kvs =>
    obtain ⟨z, y, xs, r, ob, es, ep, e, c⟩ := x
    exact ⟨z, y, xs, Paired.mapP r fun p q z => ⟨z.1, ht _ _ z.2.1, z.2.2⟩, ob, es, ep, k _ _ (.inl rfl) e, c⟩
  | set S n => obtain ⟨ob, es, ep, t, e, c⟩ := x; exact ⟨ob, es, ep, t, k _ _ (.inl rfl) e, c⟩
  | ins C dx fs =>
    obtain ⟨d, z, ne, e, mA, ⟨od, es, ep, e2, c⟩, r⟩ := x
    exact ⟨ho _ d, z, ne, k _ _ (.inl rfl) e, mA, ⟨od, es, ep, k _ _ (.inr d) e2, c⟩, r⟩
  | own y => obtain ⟨ob, e⟩ := x; exact ⟨ob, k _ _ (.inl rfl) e⟩
  | xd fs => obtain ⟨mA, ⟨od, es, ep, e, c⟩, r⟩ := x; exact ⟨mA, ⟨od, es, ep, k _ _ (.inl rfl) e, c⟩, r⟩
  | rng lo hi => obtain ⟨t, u, v, e⟩ := x; exact ⟨t, u, v, k _ _ (.inl rfl) e⟩
  | frz ob u ih => obtain ⟨e, q⟩ := x; exact ⟨k _ _ (.inl rfl) e, ih q⟩
  | tbl ps =>
    have e : h.get? a = some { cls := .none, data := .fields ps } := x
    show h'.get? a = some { cls := .none, data := .fields ps }
    exact k a _ (.inl rfl) e
  | met f y =>
    have e : h.get? a = some (PySem.W.methodObj (.ref f) (.ref y)) := x
    show h'.get? a = some (PySem.W.methodObj (.ref f) (.ref y))
    exact k a _ (.inl rfl) e
  | ext φ => obtain ⟨p, ⟨o, e⟩, st⟩ := x; exact ⟨st _ _ p fun o q => k _ _ (.inl rfl) q, ⟨o, k _ _ (.inl rfl) e⟩, st⟩
theorem HOk.lt (x : HOk P w H h) (e : H a = some o) : a < h.objs.size := (x a o e).lt
theorem HOk.fresh (x : HOk P w H h) (e : h.objs.size ≤ a) : H a = none := by
  cases q : H a with
  | none => rfl
  | some u => exact absurd (Nat.lt_of_lt_of_le (x.lt q) e) (Nat.lt_irrefl _)
theorem HOk.kept (x : HOk P w H h) (k : ∀ b u, h.get? b = some u → h'.get? b = some u) : HOk P w H h' := fun a o e =>
  (x a o e).stay (fun b u _ q => k b u q) (fun _ q => q) fun _ _ q => q
theorem HOk.laid (x : HOk P w H h) (k : ∀ b u, h.get? b = some u → h'.get? b = some u) (hp : h.objs.size ≤ a) (new : ObjOk P w (upd H a o) h' a o) : HOk P w (upd H a o) h' := fun b u e => by
  have hn := x.fresh hp
  by_cases hb : b = a
  · subst hb; rw [upd_same] at e; cases e; exact new
  · rw [upd_ne hb] at e
    exact (x b u e).stay (fun c v _ q => k c v q) (fun c q => by rw [upd_ne (ne_of_none q hn)]; exact q) fun c xs q => by rw [upd_ne (ne_of_none q hn)]; exact q
end
noncomputable def Rd (H : Hp) (a : Addr) (u : HO) : Prop := H a = some u ∨ ∃ o, H a = some (.frz o u)
theorem Rd.ok {P : Program} {w : World} {H : Hp} {h : Heap} {a : Addr} {u : HO} (r : Rd H a u) (x : HOk P w H h) : ObjOk P w H h a u := by
  rcases r with r | ⟨o, r⟩
  · exact x a u r
  · obtain ⟨_, q⟩ := x a _ r
    exact q
noncomputable def Mut : Option HO → Prop
  | some (.lst _) => True
  | some (.dK _) => True
  | some (.dT _) => True
  | some (.set _ _) => True
  | some (.ins _ _ _) => True
  | some (.ext _) => True
  | _ => False
section
variable {P : Program} {w : World} {H : Hp} {h h' : Heap} {x e : Addr} {o' : HO}
theorem HOk.write (ok : HOk P w H h) (mu : Mut (H x)) (he : e = x ∨ H e = some (.own x)) (k : ∀ b u, b ≠ e → h.get? b = some u → h'.get? b = some u) (heo : ∃ u, h'.get? e = some u)
    (new : ObjOk P w (upd H x o') h' x o') : HOk P w (upd H x o') h' := fun b u q => by
  have nown : ∀ c y, H c = some (.own y) → c ≠ x := fun c y r z => by subst z; rw [r] at mu; exact mu
  have ntup : ∀ c xs, H c = some (.tup xs) → c ≠ x := fun c xs r z => by subst z; rw [r] at mu; exact mu
  by_cases hb : b = x
  · subst hb; rw [upd_same] at q; cases q; exact new
  · rw [upd_ne hb] at q
    by_cases hbe : b = e
    · have q' : H b = some (.own x) := by
        rcases he with z | z
        · exact absurd (hbe.trans z) hb
        · rw [hbe]; exact z
      rw [q] at q'; cases q'
      obtain ⟨v, hv⟩ := heo
      exact ⟨v, by rw [hbe]; exact hv⟩
    · refine (ok b u q).stay (fun c v hc r => k c v ?_ r) (fun c r => by rw [upd_ne (nown c b r)]; exact r) fun c xs r => by rw [upd_ne (ntup c xs r)]; exact r
      rcases hc with rfl | hc
      · exact hbe
      · rintro rfl
        rcases he with z | z
        · exact nown c b hc z
        · rw [hc] at z; cases z; exact hb rfl
end
structure Un (fs ex : List Addr) (H H' : Hp) (h h' : Heap) : Prop where
  keep : ∀ b o, h.get? b = some o → H b = none → b ∉ fs → b ∉ ex → h'.get? b = some o
  slot : ∀ b o, h.get? b = some o → H b = none → b ∈ fs → b ∉ ex → ∃ sl, h'.get? b = some { o with slots := sl }
  free : ∀ b o, h.get? b = some o → H b = none → b ∉ ex → H' b = none
  there : ∀ b o, h.get? b = some o → b ∉ ex → ∃ o', h'.get? b = some o'
  tups : ∀ b xs, H b = some (.tup xs) → H' b = some (.tup xs)
  frzs : ∀ b o u, H b = some (.frz o u) → H' b = some (.frz o u)
  tbls : ∀ b ps, H b = some (.tbl ps) → ∃ more, H' b = some (.tbl (ps ++ more))
section
variable {fs fs' ex ex' : List Addr} {H H1 H2 : Hp} {h h1 h2 h' : Heap} {a x e : Addr} {o : HO}
theorem Un.any (u : Un fs ex H H1 h h1) {b : Addr} {ob : Obj} (q : h.get? b = some ob) (n : H b = none) (hx : b ∉ ex) : ∃ sl, h1.get? b = some { ob with slots := sl } := by
  by_cases hb : b ∈ fs
  · exact u.slot b ob q n hb hx
  · exact ⟨ob.slots, u.keep b ob q n hb hx⟩
theorem Un.kept (k : ∀ b u, h.get? b = some u → h'.get? b = some u) : Un fs ex H H h h' :=
  ⟨fun b ob q _ _ _ => k b ob q, fun b ob q _ _ _ => ⟨ob.slots, k b ob q⟩, fun _ _ _ n _ => n, fun b ob q _ => ⟨ob, k b ob q⟩, fun _ _ q => q, fun _ _ _ q => q, fun _ ps q => ⟨#[], by rw [q]; simp⟩⟩
theorem Un.refl : Un fs ex H H h h := Un.kept fun _ _ q => q
theorem Un.laid (k : ∀ b u, h.get? b = some u → h'.get? b = some u) (hp : h.objs.size ≤ a) (hn : H a = none) : Un fs ex H (upd H a o) h h' where
  keep := fun b u q _ _ _ => k b u q
  slot := fun b u q _ _ _ => ⟨u.slots, k b u q⟩
  free := fun b u q n _ => by rw [upd_ne (Nat.ne_of_lt (Nat.lt_of_lt_of_le (Heap.lt_size q) hp))]; exact n
  there := fun b u q _ => ⟨u, k b u q⟩
  tups := fun b xs q => by rw [upd_ne (ne_of_none q hn)]; exact q
  frzs := fun b u xs q => by rw [upd_ne (ne_of_none q hn)]; exact q
  tbls := fun b ps q => ⟨#[], by rw [upd_ne (ne_of_none q hn), q]; simp⟩
theorem Un.write (mu : Mut (H x)) (he : e = x ∨ H e = some (.own x)) (k : ∀ b u, b ≠ e → h.get? b = some u → h'.get? b = some u) (heo : ∃ u, h'.get? e = some u) : Un fs ex H (upd H x o) h h' := by
  have hx : ∀ b, H b = none → b ≠ x := fun b n z => by subst z; rw [n] at mu; exact mu
  have hb : ∀ b, H b = none → b ≠ e := fun b n z => by
    subst z
    rcases he with r | r
    · exact hx b n r
    · rw [n] at r; cases r
  have hm : ∀ b u, H b = some u → ¬ Mut (some u) → b ≠ x := fun b u q nm z => by subst z; rw [q] at mu; exact nm mu
  refine ⟨fun b u q n _ _ => k b u (hb b n) q, fun b u q n _ _ => ⟨u.slots, k b u (hb b n) q⟩, fun b u q n _ => by rw [upd_ne (hx b n)]; exact n, fun b u q _ => ?_,
    fun b xs q => by rw [upd_ne (hm b _ q fun z => z)]; exact q, fun b u xs q => by rw [upd_ne (hm b _ q fun z => z)]; exact q, fun b ps q => ⟨#[], by rw [upd_ne (hm b _ q fun z => z), q]; simp⟩⟩
  by_cases hbe : b = e
  · subst hbe; exact heo
  · exact ⟨u, k b u hbe q⟩
end
noncomputable def trk (h : Heap) (H : Hp) : List Addr := (List.range h.objs.size).filter fun a => (H a).isSome
noncomputable def hidT (h : Heap) (H : Hp) : Heap := PySem.W.hideAll h (trk h H)
theorem hidT_size (h : Heap) (H : Hp) : (hidT h H).objs.size = h.objs.size := PySem.W.hideAll_size _ _
theorem hidT_get {h : Heap} {H : Hp} {b : Addr} {o : Obj} (e : h.get? b = some o) (n : H b = none) : (hidT h H).get? b = some o :=
  PySem.W.hideAll_get _ e fun hm => by
    have q : (H b).isSome = true := (List.mem_filter.mp hm).2
    rw [n] at q; simp at q
theorem of_hidT {h : Heap} {H : Hp} {b : Addr} {o : Obj} (e : (hidT h H).get? b = some o) : h.get? b = some o ∧ H b = none := by
  have e' : h.get? b = some o := PySem.W.of_hideAll (trk h H) e
  refine ⟨e', ?_⟩
  cases q : H b with
  | none => rfl
  | some x =>
    have hm : b ∈ trk h H := List.mem_filter.mpr ⟨List.mem_range.mpr (Heap.lt_size e'), by simp [q]⟩
    have z : (hidT h H).get? b = none := PySem.W.hideAll_none (trk h H) hm
    rw [z] at e; cases e
noncomputable def allNews (g h : Heap) (L : Addr) : List (Addr × Obj) := (List.range h.objs.size).filterMap fun a => if a = L ∨ (g.get? a).isSome = true then none else (h.get? a).map fun o => (a, o)
noncomputable def rest (g h : Heap) (L d : Addr) : List (Addr × Obj) := (allNews g h L).filter fun p => decide (p.1 ≠ d)
end L2
namespace L2
open PySem PySem.Spec PyProof.Rows
structure Mod (K : PySem.W.Frag) (mg : Str → Option Value) (base : Heap) : Prop where
  kin : K.In base
  glob : base.Ns mainGlobals mg
  blt : ∃ mb, base.Ns builtinsNs mb ∧ ∀ x : Str, x ≠ "__name__" → mb x = bootBuiltins x
  nolimit : base.NoLimit
structure Cx where
  prog : Program
  w : World
  K : PySem.W.Frag
  mg : Str → Option Value
  base : Heap
  A : Around
  N : List Str
  s₀ : Shared
  H₀ : Hp
  env : Env
  outer : List Env
  stack : List Env
  ex : List Addr
  fn : Str → Bool
  calm : Bool
  pn : List (Addr × Obj)
  xe : Value → Shared → Prop
noncomputable def frs (l : List Env) : List Addr := l.filterMap (·.frame)
noncomputable abbrev Cx.fs (X : Cx) : List Addr := frs X.outer
noncomputable def Vis (sc : Scope) (x : Str) : Prop := sc.names.lookup x = some .local ∨ sc.names.lookup x = some .cell ∨ sc.names.lookup x = some .free
noncomputable def Loc (sc : Scope) (x : Str) : Prop := sc.names.lookup x = some .local ∨ sc.names.lookup x = some .cell
noncomputable def Look (env : Env) (h : Heap) (m : Str → Option Value) (x : Str) (u : Value) : Prop :=
  (env.kindOf x = some .local ∧ m x = some u) ∨ ((env.kindOf x = some .cell ∨ env.kindOf x = some .free) ∧ ∃ c, env.cells.lookup x = some c ∧ h.IsCell c (some u))
structure Cx.Ok (X : Cx) : Prop where
  mod : Mod X.K X.mg X.base
  kind : X.env.scope.kind = .function
  glob : X.env.globals = mainGlobals
  blt : X.env.builtins = builtinsNs
  above : X.s₀.heap.objs.size ≤ X.env.locals
  inj : ∀ x y c, X.env.cells.lookup x = some c → X.env.cells.lookup y = some c → x = y
  has : ∀ x, (X.env.kindOf x = some .cell ∨ X.env.kindOf x = some .free) → ∃ c, X.env.cells.lookup x = some c
  cab : ∀ x c, X.fn x = true → X.env.cells.lookup x = some c → X.s₀.heap.objs.size ≤ c
  hd : X.calm = true → X.A.handled = none
  frames : X.A.frames = some X.stack
  stk : X.stack = X.outer ∨ (X.stack = X.env :: X.outer ∧ X.env.frame = some X.env.locals)
  exf : ∀ b ∈ X.ex, b ≠ X.env.locals ∧ ∀ x c, X.env.cells.lookup x = some c → c ≠ b
  bs : ∀ b o, X.base.get? b = some o → X.s₀.heap.get? b = some o ∧ X.H₀ b = none
  bsz : X.base.objs.size ≤ X.s₀.heap.objs.size
  noex : ∀ b o, X.base.get? b = some o → b ∉ X.ex
  exfs : ∀ b ∈ X.ex, b ∉ X.fs
  funs : X.s₀.heap.FunFrames X.base X.outer
  frf : ∀ b ∈ X.fs, X.H₀ b = none
structure Inv (X : Cx) (pins : List (Addr × Obj)) (σ : List (Option V)) (H : Hp) (s : Shared) : Prop where
  ok : X.Ok
  os : s.os = X.s₀.os
  bare : AllBare s.gens
  base : Un X.fs X.ex X.H₀ H X.s₀.heap s.heap
  loc : ∃ m, s.heap.Ns X.env.locals m ∧ ∀ (i : Nat) (x : Str) (v : V), X.N[i]? = some x → σ[i]? = some (some v) → Vis X.env.scope x → ∃ u, RelV v u ∧ Look X.env s.heap m x u
  cell : ∀ x c, X.env.cells.lookup x = some c → ∃ v, s.heap.IsCell c v
  free : H X.env.locals = none
  freeC : ∀ x c, X.env.cells.lookup x = some c → H c = none
  pin : ∀ p ∈ X.pn ++ pins, s.heap.get? p.1 = some p.2 ∧ H p.1 = none ∧ p.1 ≠ X.env.locals ∧ p.1 ∉ X.fs ∧ ∀ v, p.2.data ≠ .cell v
  hok : HOk X.prog X.w H s.heap
  len : σ.length = X.N.length
section
variable {X : Cx} {pins : List (Addr × Obj)} {σ : List (Option V)} {H H' : Hp} {s : Shared} {h' : Heap}
theorem Cx.Ok.nofr (ok : X.Ok) {b : Addr} {o : Obj} (e : X.base.get? b = some o) : b ∉ X.fs := fun hb => by
  have := (ok.funs.mem hb).1
  rw [e] at this; cases this
theorem Inv.bs (I : Inv X pins σ H s) : ∀ b o, X.base.get? b = some o → s.heap.get? b = some o ∧ H b = none := fun b o e =>
  ⟨I.base.keep b o (I.ok.bs b o e).1 (I.ok.bs b o e).2 (I.ok.nofr e) (I.ok.noex b o e), I.base.free b o (I.ok.bs b o e).1 (I.ok.bs b o e).2 (I.ok.noex b o e)⟩
theorem Inv.bk (I : Inv X pins σ H s) : ∀ b o, X.base.get? b = some o → s.heap.get? b = some o := fun b o e => (I.bs b o e).1
theorem Inv.mod (I : Inv X pins σ H s) : Mod X.K X.mg X.base := I.ok.mod
theorem Inv.kIn (I : Inv X pins σ H s) : X.K.In s.heap := I.ok.mod.kin.keeps I.bk
theorem Inv.lt (I : Inv X pins σ H s) : X.env.locals < s.heap.objs.size := let ⟨_, hn, _⟩ := I.loc; hn.lt
theorem Inv.sz (I : Inv X pins σ H s) : X.s₀.heap.objs.size ≤ s.heap.objs.size := Nat.le_trans I.ok.above (Nat.le_of_lt I.lt)
theorem Inv.nofs (I : Inv X pins σ H s) {a : Addr} (h : s.heap.objs.size ≤ a) : a ∉ X.fs := fun hb => by
  obtain ⟨_, o, ho, _⟩ := I.ok.funs.mem hb
  exact absurd (Nat.lt_of_lt_of_le (Heap.lt_size ho) (Nat.le_trans I.sz h)) (Nat.lt_irrefl _)
theorem Inv.cne (I : Inv X pins σ H s) : ∀ x c, X.env.cells.lookup x = some c → c ≠ X.env.locals := fun x c e z => by
  obtain ⟨v, o, ho, hd⟩ := I.cell x c e
  obtain ⟨m, ⟨o', es, ep, ho', hd', _⟩, _⟩ := I.loc
  rw [z, ho'] at ho; cases ho; rw [hd'] at hd; cases hd
theorem Inv.funs (I : Inv X pins σ H s) : s.heap.FunFrames X.base X.outer := by
  have all : ∀ (l : List Env), (∀ b ∈ frs l, b ∈ X.fs) → X.s₀.heap.FunFrames X.base l → s.heap.FunFrames X.base l := by
    intro l
    induction l with
    | nil => intro _ _; trivial
    | cons env r ih =>
      intro hs hl
      obtain ⟨hk, ⟨L, o, hf, hn, ho, hd⟩, hr⟩ := hl
      have hL : L ∈ X.fs := hs L (by unfold frs; rw [List.filterMap_cons, hf]; exact List.mem_cons_self)
      obtain ⟨sl, e⟩ := I.base.slot L o ho (I.ok.frf L hL) hL fun z => I.ok.exfs L z hL
      exact ⟨hk, ⟨L, _, hf, hn, e, hd⟩, ih (fun b hb => hs b (by unfold frs; rw [List.filterMap_cons, hf]; exact List.mem_cons_of_mem _ hb)) hr⟩
  exact all X.outer (fun _ hb => hb) I.ok.funs
theorem Inv.stack (I : Inv X pins σ H s) : s.heap.FunFrames X.base X.stack := by
  rcases I.ok.stk with e | ⟨e, hf⟩
  · rw [e]; exact I.funs
  · rw [e]
    obtain ⟨m, hn, _⟩ := I.loc
    refine .cons (by rw [I.ok.kind]; decide) hf hn ?_ I.funs
    exact Heap.get?_none_of_le (Nat.le_trans I.ok.bsz I.ok.above)
theorem Inv.stkSub (I : Inv X pins σ H s) : ∀ b ∈ frs X.stack, b ∈ X.env.locals :: X.fs := fun b hb => by
  rcases I.ok.stk with e | ⟨e, hf⟩
  · rw [e] at hb; exact List.mem_cons_of_mem _ hb
  · rw [e] at hb
    unfold frs at hb
    rw [List.filterMap_cons, hf] at hb
    exact hb
theorem Inv.stkFree (I : Inv X pins σ H s) : ∀ b ∈ frs X.stack, H b = none := fun b hb => by
  rcases List.mem_cons.mp (I.stkSub b hb) with e | hb
  · rw [e]; exact I.free
  · obtain ⟨_, o, ho, _⟩ := I.ok.funs.mem hb
    exact I.base.free b o ho (I.ok.frf b hb) fun z => I.ok.exfs b z hb
theorem Inv.step {g' : Array GenState} {t' : Nat} {d' : Drawn} {ch : List Addr} (I : Inv X pins σ H s)
    (hch : ∀ b ∈ ch, (b ∈ X.ex ∨ X.s₀.heap.objs.size ≤ b) ∧ b ≠ X.env.locals ∧ (∀ x c, X.env.cells.lookup x = some c → c ≠ b) ∧ ∀ p ∈ X.pn ++ pins, p.1 ≠ b)
    (keep : ∀ b o, b ≠ X.env.locals → b ∉ X.fs → b ∉ ch → s.heap.get? b = some o → H b = none → h'.get? b = some o)
    (slot : ∀ b o, b ≠ X.env.locals → b ∈ X.fs → b ∉ ch → s.heap.get? b = some o → H b = none → ∃ sl, h'.get? b = some { o with slots := sl }) (free : ∀ b o, b ∉ ch → s.heap.get? b = some o → H b = none → H' b = none)
    (there : ∀ b o, b ∉ ch → s.heap.get? b = some o → ∃ o', h'.get? b = some o')
    (tups : ∀ b xs, H b = some (.tup xs) → H' b = some (.tup xs)) (frzs : ∀ b o u, H b = some (.frz o u) → H' b = some (.frz o u)) (tbls : ∀ b ps, H b = some (.tbl ps) → ∃ more, H' b = some (.tbl (ps ++ more)))
    (ns : ∀ m, s.heap.Ns X.env.locals m → h'.Ns X.env.locals m) (hok : HOk X.prog X.w H' h') (hg : AllBare g') :
    Inv X pins σ H' { s with heap := h', gens := g', drawn := d', toks := t' } := by
  have neL : ∀ b o, X.s₀.heap.get? b = some o → b ≠ X.env.locals := fun b o e => Nat.ne_of_lt (Nat.lt_of_lt_of_le (Heap.lt_size e) I.ok.above)
  have neC : ∀ b o, X.s₀.heap.get? b = some o → b ∉ X.ex → b ∉ ch := fun b o e hx hb => by
    rcases (hch b hb).1 with z | z
    · exact hx z
    · exact absurd (Nat.lt_of_lt_of_le (Heap.lt_size e) z) (Nat.lt_irrefl _)
  have cellK : ∀ x c, X.env.cells.lookup x = some c → ∀ v, s.heap.IsCell c v → h'.IsCell c v := fun x c e v ⟨o, ho, hd⟩ => by
    have nch : c ∉ ch := fun z => (hch c z).2.2.1 x c e rfl
    by_cases hc : c ∈ X.fs
    · obtain ⟨sl, q⟩ := slot c o (I.cne x c e) hc nch ho (I.freeC x c e)
      exact ⟨_, q, hd⟩
    · exact ⟨o, keep c o (I.cne x c e) hc nch ho (I.freeC x c e), hd⟩
  refine ⟨I.ok, I.os, hg, ⟨fun b o e n hb hx => ?_, fun b o e n hb hx => ?_, fun b o e n hx => ?_, fun b o e hx => ?_, fun b xs e => tups b xs (I.base.tups b xs e), fun b o xs e => frzs b o xs (I.base.frzs b o xs e), fun b ps e => ?_⟩, ?_, fun x c e => ?_, ?_, fun x c e => ?_, fun p hp => ?_, hok, I.len⟩
  · exact keep b o (neL b o e) hb (neC b o e hx) (I.base.keep b o e n hb hx) (I.base.free b o e n hx)
  · obtain ⟨sl, e1⟩ := I.base.slot b o e n hb hx
    obtain ⟨sl', e2⟩ := slot b _ (neL b o e) hb (neC b o e hx) e1 (I.base.free b o e n hx)
    exact ⟨sl', e2⟩
  · obtain ⟨o', e1⟩ := I.base.there b o e hx
    exact free b o' (neC b o e hx) e1 (I.base.free b o e n hx)
  · obtain ⟨o', e1⟩ := I.base.there b o e hx
    exact there b o' (neC b o e hx) e1
  · obtain ⟨m1, e1⟩ := I.base.tbls b ps e
    obtain ⟨m2, e2⟩ := tbls b _ e1
    exact ⟨m1 ++ m2, by rw [e2, Array.append_assoc]⟩
  · obtain ⟨m, hn, hl⟩ := I.loc
    refine ⟨m, ns m hn, fun i x v e1 e2 e3 => ?_⟩
    obtain ⟨u, r, l⟩ := hl i x v e1 e2 e3
    refine ⟨u, r, ?_⟩
    rcases l with l | ⟨k, c, e, z⟩
    · exact .inl l
    · exact .inr ⟨k, c, e, cellK x c e _ z⟩
  · obtain ⟨v, z⟩ := I.cell x c e
    exact ⟨v, cellK x c e v z⟩
  · obtain ⟨m, ⟨o, _, _, ho, _⟩, _⟩ := I.loc
    exact free _ o (fun z => (hch _ z).2.1 rfl) ho I.free
  · obtain ⟨v, o, ho, hd⟩ := I.cell x c e
    exact free c o (fun z => (hch c z).2.2.1 x c e rfl) ho (I.freeC x c e)
  · obtain ⟨e, n, ne, nf, d⟩ := I.pin p hp
    have nch : p.1 ∉ ch := fun z => (hch p.1 z).2.2.2 p hp rfl
    exact ⟨keep p.1 p.2 ne nf nch e n, free p.1 p.2 nch e n, ne, nf, d⟩
theorem Inv.un {t' : Nat} (I : Inv X pins σ H s) (u : Un X.fs [] H H' s.heap h') (hok : HOk X.prog X.w H' h') : Inv X pins σ H' { s with heap := h', toks := t' } := by
  obtain ⟨m, ⟨o, es, ep, ho, r⟩, _⟩ := id I.loc
  obtain ⟨sl, hL⟩ := u.any ho I.free (by simp)
  exact I.step (g' := s.gens) (d' := s.drawn) (ch := []) (fun _ z => nomatch z) (fun b o _ hb _ e n => u.keep b o e n hb (by simp)) (fun b o _ hb _ e n => u.slot b o e n hb (by simp)) (fun b o _ e n => u.free b o e n (by simp)) (fun b o _ e => u.there b o e (by simp)) u.tups u.frzs u.tbls (fun m' hm => by
    obtain ⟨o', es', ep', ho', r'⟩ := hm
    rw [ho] at ho'; cases ho'
    exact ⟨_, es', ep', hL, r'⟩) hok I.bare
theorem Inv.call {g' : Array GenState} {t' : Nat} {d' : Drawn} {ch : List Addr} (I : Inv X pins σ H s) (u : Un (frs X.stack) ch H H' s.heap h') (hok : HOk X.prog X.w H' h') (hg : AllBare g')
    (hch : ∀ b ∈ ch, (b ∈ X.ex ∨ X.s₀.heap.objs.size ≤ b) ∧ b ≠ X.env.locals ∧ (∀ x c, X.env.cells.lookup x = some c → c ≠ b) ∧ ∀ p ∈ X.pn ++ pins, p.1 ≠ b) :
    Inv X pins σ H' { s with heap := h', gens := g', drawn := d', toks := t' } := by
  obtain ⟨m, ⟨o, es, ep, ho, r⟩, _⟩ := id I.loc
  obtain ⟨sl, hL⟩ := u.any ho I.free fun z => (hch _ z).2.1 rfl
  exact I.step (ch := ch) hch (fun b o hL hb hc e n => u.keep b o e n (fun z => (List.mem_cons.mp (I.stkSub b z)).elim hL hb) hc) (fun b o _ _ hc e n => u.any e n hc) (fun b o hc e n => u.free b o e n hc) (fun b o hc e => u.there b o e hc) u.tups u.frzs u.tbls (fun m' hm => by
    obtain ⟨o', es', ep', ho', r'⟩ := hm
    rw [ho] at ho'; cases ho'
    exact ⟨_, es', ep', hL, r'⟩) hok hg
theorem Inv.turned {t' : Nat} {it : Addr} (I : Inv X pins σ H s) (k : ∀ b o, b ≠ it → s.heap.get? b = some o → h'.get? b = some o) (hn : H it = none) (hL : it ≠ X.env.locals)
    (h1 : it ∈ X.ex ∨ X.s₀.heap.objs.size ≤ it) (h2 : ∀ x c, X.env.cells.lookup x = some c → c ≠ it) (h3 : ∀ p ∈ X.pn ++ pins, p.1 ≠ it) : Inv X pins σ H { s with heap := h', toks := t' } := by
  have nit : ∀ b u, H b = some u → b ≠ it := fun b u e z => by rw [z, hn] at e; cases e
  refine I.step (g' := s.gens) (d' := s.drawn) (ch := [it]) (fun b hb => ?_) (fun b o _ _ hc e _ => k b o (fun z => hc (by simp [z])) e) (fun b o _ _ hc e _ => ⟨o.slots, k b o (fun z => hc (by simp [z])) e⟩) (fun _ _ _ _ n => n)
    (fun b o hc e => ⟨o, k b o (fun z => hc (by simp [z])) e⟩) (fun _ _ e => e) (fun _ _ _ e => e) (fun b ps e => ⟨#[], by rw [e]; simp⟩) (fun m hm => ?_) (fun b u e => ?_) I.bare
  · have e : b = it := by simpa using hb
    subst e
    exact ⟨h1, hL, h2, h3⟩
  · obtain ⟨o, es, ep, ho, r⟩ := hm
    exact ⟨o, es, ep, k _ o (Ne.symm hL) ho, r⟩
  · refine (I.hok b u e).stay (fun c v hc q => k c v ?_ q) (fun _ q => q) fun _ _ q => q
    rcases hc with z | z
    · rw [z]; exact nit b u e
    · exact nit c _ z
theorem Inv.tok (I : Inv X pins σ H s) (t : Nat) : Inv X pins σ H { s with toks := t } := I.un (h' := s.heap) (t' := t) Un.refl I.hok
theorem Inv.kept {t' : Nat} (I : Inv X pins σ H s) (k : ∀ b u, s.heap.get? b = some u → h'.get? b = some u) : Inv X pins σ H { s with heap := h', toks := t' } := I.un (Un.kept k) (I.hok.kept k)
theorem Inv.laid {a : Addr} {o : HO} {t' : Nat} (I : Inv X pins σ H s) (k : ∀ b u, s.heap.get? b = some u → h'.get? b = some u) (hp : s.heap.objs.size ≤ a) (new : ObjOk X.prog X.w (upd H a o) h' a o) :
    Inv X pins σ (upd H a o) { s with heap := h', toks := t' } := I.un (Un.laid k hp (I.hok.fresh hp)) (I.hok.laid k hp new)
theorem Inv.write {x e : Addr} {o : HO} {t' : Nat} (I : Inv X pins σ H s) (mu : Mut (H x)) (he : e = x ∨ H e = some (.own x)) (k : ∀ b u, b ≠ e → s.heap.get? b = some u → h'.get? b = some u) (heo : ∃ u, h'.get? e = some u)
    (new : ObjOk X.prog X.w (upd H x o) h' x o) : Inv X pins σ (upd H x o) { s with heap := h', toks := t' } := I.un (Un.write mu he k heo) (I.hok.write mu he k heo new)
theorem Inv.pins_of {pins' : List (Addr × Obj)} (I : Inv X pins σ H s) (h : ∀ p ∈ pins', s.heap.get? p.1 = some p.2 ∧ H p.1 = none ∧ p.1 ≠ X.env.locals ∧ p.1 ∉ X.fs ∧ ∀ v, p.2.data ≠ .cell v) : Inv X pins' σ H s :=
  ⟨I.ok, I.os, I.bare, I.base, I.loc, I.cell, I.free, I.freeC, fun p hp => (List.mem_append.mp hp).elim (fun z => I.pin p (List.mem_append_left _ z)) (h p), I.hok, I.len⟩
theorem nodup_ix {N : List Str} (hN : N.Nodup) {i j : Nat} {x : Str} (a : N[i]? = some x) (b : N[j]? = some x) : i = j := by
  obtain ⟨h1, e1⟩ := List.getElem?_eq_some_iff.mp a
  obtain ⟨h2, e2⟩ := List.getElem?_eq_some_iff.mp b
  exact (List.getElem_inj hN).mp (e1.trans e2.symm)
theorem store_ok2 {M : Model} {A : Around} {E : Value → Shared → Prop} {i : Nat} {x : Str} {v : V} {u : Value} {Q : Unit → Shared → Prop} (I : Inv X pins σ H s) (hN : X.N.Nodup) (hi : X.N[i]? = some x) (hx : Loc X.env.scope x) (r : RelV v u)
    (h : ∀ s', Inv X pins (σ.set i (some v)) H s' → (∃ a, Heap.SameBut a s.heap s'.heap ∧ (a = X.env.locals ∨ X.env.cells.lookup x = some a)) → Q () s') (hf : X.fn x = true ∨ X.env.scope.names.lookup x = some .local := by first | exact .inl rfl | exact .inr rfl | assumption) : wpAny M A (storeName X.env x u) Q E s := by
  obtain ⟨m, hn, hl⟩ := id I.loc
  have hcls : (X.env.scope.kind == .class || (X.env.scope.kind == .module && X.env.locals != X.env.globals)) = false := by rw [I.ok.kind]; rfl
  have hiσ : i < σ.length := by rw [I.len]; exact (List.getElem?_eq_some_iff.mp hi).1
  have cne := I.cne
  have tracked : ∀ {a : Addr} {h' : Heap}, (∃ o, s.heap.get? a = some o ∧ H a = none) → Heap.SameBut a s.heap h' → HOk X.prog X.w H h' := fun {a h'} ha hs b ob e => by
    obtain ⟨_, _, hfree⟩ := ha
    refine (I.hok b ob e).stay (fun c w' hc q => (hs.2 c ?_).trans q) (fun _ q => q) fun _ _ q => q
    rintro rfl
    rcases hc with rfl | hc
    · rw [hfree] at e; cases e
    · rw [hfree] at hc; cases hc
  rcases hx with hk | hk
  · refine wpAny_storeName_local hk hn (fun h' hn' hs => ?_) hcls
    obtain ⟨oL, _, _, hoL, _⟩ := id hn
    refine h _ ⟨I.ok, I.os, I.bare, ⟨fun b o e n hb hx => ?_, fun b o e n hb hx => ?_, I.base.free, fun b o e hx => ?_, I.base.tups, I.base.frzs, I.base.tbls⟩, ⟨_, hn', fun j y v' e1 e2 e3 => ?_⟩, fun y c e => ?_, I.free, I.freeC, fun p hp => ?_, tracked ⟨oL, hoL, I.free⟩ hs, by simpa using I.len⟩ ⟨_, hs, .inl rfl⟩
    · exact (hs.2 b (Nat.ne_of_lt (Nat.lt_of_lt_of_le (Heap.lt_size e) I.ok.above))).trans (I.base.keep b o e n hb hx)
    · obtain ⟨sl, e1⟩ := I.base.slot b o e n hb hx
      exact ⟨sl, (hs.2 b (Nat.ne_of_lt (Nat.lt_of_lt_of_le (Heap.lt_size e) I.ok.above))).trans e1⟩
    · obtain ⟨o', e1⟩ := I.base.there b o e hx
      exact ⟨o', (hs.2 b (Nat.ne_of_lt (Nat.lt_of_lt_of_le (Heap.lt_size e) I.ok.above))).trans e1⟩
    · by_cases hj : j = i
      · subst hj
        rw [hi] at e1; cases e1
        rw [List.getElem?_set_self hiσ] at e2
        cases e2
        exact ⟨u, r, .inl ⟨hk, by simp⟩⟩
      · rw [List.getElem?_set_ne (Ne.symm hj)] at e2
        obtain ⟨u', r', q⟩ := hl j y v' e1 e2 e3
        refine ⟨u', r', ?_⟩
        rcases q with ⟨k, e⟩ | ⟨k, c, e, z⟩
        · refine .inl ⟨k, ?_⟩
          have : y ≠ x := fun e => hj (nodup_ix hN e1 (e ▸ hi))
          simp [this, e]
        · exact .inr ⟨k, c, e, z.sameBut hs (cne y c e)⟩
    · obtain ⟨w', z⟩ := I.cell y c e
      exact ⟨w', z.sameBut hs (cne y c e)⟩
    · obtain ⟨e, n, ne, nf, d⟩ := I.pin p hp
      exact ⟨(hs.2 p.1 ne).trans e, n, ne, nf, d⟩
  · have hfn : X.fn x = true := by
      rcases hf with z | z
      · exact z
      · rw [z] at hk; cases hk
    obtain ⟨c, hc⟩ := I.ok.has x (.inl hk)
    obtain ⟨w', z⟩ := I.cell x c hc
    refine wpAny_storeName_cell I.ok.kind hk hc z (fun h' hc' hs => ?_)
    obtain ⟨oc, hoc, hocd⟩ := id z
    refine h { s with heap := h' } ⟨I.ok, I.os, I.bare, ⟨fun b o e n hb hx => ?_, fun b o e n hb hx => ?_, I.base.free, fun b o e hx => ?_, I.base.tups, I.base.frzs, I.base.tbls⟩, ⟨m, hn.sameBut hs (Ne.symm (cne x c hc)), fun j y v' e1 e2 e3 => ?_⟩, fun y c' e => ?_, I.free, I.freeC, fun p hp => ?_, tracked ⟨oc, hoc, I.freeC x c hc⟩ hs, by simpa using I.len⟩ ⟨c, hs, .inr hc⟩
    · exact (hs.2 b (Nat.ne_of_lt (Nat.lt_of_lt_of_le (Heap.lt_size e) (I.ok.cab x c hfn hc)))).trans (I.base.keep b o e n hb hx)
    · obtain ⟨sl, e1⟩ := I.base.slot b o e n hb hx
      exact ⟨sl, (hs.2 b (Nat.ne_of_lt (Nat.lt_of_lt_of_le (Heap.lt_size e) (I.ok.cab x c hfn hc)))).trans e1⟩
    · obtain ⟨o', e1⟩ := I.base.there b o e hx
      exact ⟨o', (hs.2 b (Nat.ne_of_lt (Nat.lt_of_lt_of_le (Heap.lt_size e) (I.ok.cab x c hfn hc)))).trans e1⟩
    · by_cases hj : j = i
      · subst hj
        rw [hi] at e1; cases e1
        rw [List.getElem?_set_self hiσ] at e2
        cases e2
        exact ⟨u, r, .inr ⟨.inl hk, c, hc, hc'⟩⟩
      · rw [List.getElem?_set_ne (Ne.symm hj)] at e2
        obtain ⟨u', r', q⟩ := hl j y v' e1 e2 e3
        refine ⟨u', r', ?_⟩
        rcases q with q | ⟨k, c', e, z'⟩
        · exact .inl q
        · refine .inr ⟨k, c', e, z'.sameBut hs ?_⟩
          rintro rfl
          exact hj (nodup_ix hN e1 (I.ok.inj _ _ _ e hc ▸ hi))
    · by_cases hcc : c' = c
      · subst hcc; exact ⟨_, hc'⟩
      · obtain ⟨w2, z2⟩ := I.cell y c' e
        exact ⟨w2, z2.sameBut hs hcc⟩
    · obtain ⟨e, n, ne, nf, d⟩ := I.pin p hp
      refine ⟨(hs.2 p.1 ?_).trans e, n, ne, nf, d⟩
      intro q
      rw [q, hoc] at e
      have q' : oc = p.2 := Option.some.inj e
      exact d w' (by rw [← q']; exact hocd)
theorem store_ok {M : Model} {A : Around} {E : Value → Shared → Prop} {i : Nat} {x : Str} {v : V} {u : Value} {Q : Unit → Shared → Prop} (I : Inv X pins σ H s) (hN : X.N.Nodup) (hi : X.N[i]? = some x) (hx : Loc X.env.scope x) (r : RelV v u)
    (h : ∀ s', Inv X pins (σ.set i (some v)) H s' → Q () s') (hf : X.fn x = true ∨ X.env.scope.names.lookup x = some .local := by first | exact .inl rfl | exact .inr rfl | assumption) : wpAny M A (storeName X.env x u) Q E s :=
  store_ok2 I hN hi hx r (fun s' I' _ => h s' I') hf
theorem Inv.call' {s' : Shared} {ch : List Addr} (I : Inv X pins σ H s) (ho : s'.os = s.os) (u : Un (frs X.stack) ch H H' s.heap s'.heap) (hok : HOk X.prog X.w H' s'.heap) (hg : AllBare s'.gens)
    (hch : ∀ b ∈ ch, (b ∈ X.ex ∨ X.s₀.heap.objs.size ≤ b) ∧ b ≠ X.env.locals ∧ (∀ x c, X.env.cells.lookup x = some c → c ≠ b) ∧ ∀ p ∈ X.pn ++ pins, p.1 ≠ b) : Inv X pins σ H' s' := by
  obtain ⟨h', g', d', t', o'⟩ := s'
  have e : o' = s.os := ho
  subst e
  exact I.call (g' := g') (t' := t') (d' := d') u hok hg hch
end
noncomputable abbrev XK := Value → Option Addr → Hp → Prop
noncomputable abbrev St := List (Option V)
noncomputable abbrev VK := V → Hp → Prop
noncomputable abbrev TE := St → Hp → VK → Prop
noncomputable abbrev TT := St → Hp → (Bool → Hp → Prop) → Prop
noncomputable abbrev TA := St → Hp → (List V → Hp → Prop) → Prop
structure Ends where
  nx : St → Hp → Prop
  rt : VK
  bk : St → Hp → Prop := fun _ _ => False
  ct : St → Hp → Prop := fun _ _ => False
noncomputable abbrev TS := Ends → St → Hp → Prop
noncomputable def EP (X : Cx) (pins : List (Addr × Obj)) (σ : St) (Q : VK) (u : Value) (s' : Shared) : Prop := ∃ v H', Inv X pins σ H' s' ∧ RelV v u ∧ Q v H'
noncomputable def TP (X : Cx) (pins : List (Addr × Obj)) (σ : St) (Q : Bool → Hp → Prop) (b : Bool) (s' : Shared) : Prop := ∃ H', Inv X pins σ H' s' ∧ Q b H'
noncomputable def AP (X : Cx) (pins : List (Addr × Obj)) (σ : St) (Q : List V → Hp → Prop) (us : List Value) (s' : Shared) : Prop := ∃ vs H', Inv X pins σ H' s' ∧ Vals vs us ∧ Q vs H'
noncomputable def SP (X : Cx) (pins : List (Addr × Obj)) (D : Ends) (f : Flow) (s' : Shared) : Prop :=
  match f with
  | .next => ∃ σ' H', Inv X pins σ' H' s' ∧ D.nx σ' H'
  | .brk => ∃ σ' H', Inv X pins σ' H' s' ∧ D.bk σ' H'
  | .cont => ∃ σ' H', Inv X pins σ' H' s' ∧ D.ct σ' H'
  | .ret u => ∃ v σ' H', Inv X pins σ' H' s' ∧ RelV v u ∧ D.rt v H'
noncomputable def PE (X : Cx) (e : Expr) (t : TE) : Prop :=
  ∀ (pins : List (Addr × Obj)) (s : Shared) (σ : St) (H : Hp) (Q : VK), Inv X pins σ H s → t σ H Q → wpAny (model X.prog X.w) X.A (eval e X.env) (EP X pins σ Q) X.xe s
noncomputable def PT (X : Cx) (e : Expr) (t : TT) : Prop :=
  ∀ (pins : List (Addr × Obj)) (s : Shared) (σ : St) (H : Hp) (Q : Bool → Hp → Prop), Inv X pins σ H s → t σ H Q → wpAny (model X.prog X.w) X.A (isTrue e X.env (eval e X.env)) (TP X pins σ Q) X.xe s
noncomputable def PW (X : Cx) (e : Expr) (t : TT) : Prop :=
  ∀ (whole : Sem Value) (pins : List (Addr × Obj)) (s : Shared) (σ : St) (H : Hp) (Q : Bool → Hp → Prop), Inv X pins σ H s → t σ H Q → wpAny (model X.prog X.w) X.A (isTrue e X.env whole) (TP X pins σ Q) X.xe s
theorem PW.pt {X : Cx} {e : Expr} {t : TT} (h : PW X e t) : PT X e t := h _
noncomputable def PA (X : Cx) (es : List Expr) (t : TA) : Prop :=
  ∀ (pos : Pos) (pins : List (Addr × Obj)) (s : Shared) (σ : St) (H : Hp) (Q : List V → Hp → Prop), Inv X pins σ H s → t σ H Q → wpAny (model X.prog X.w) X.A (spliced (backTo pos (starEach es X.env))) (AP X pins σ Q) X.xe s
noncomputable def PS (X : Cx) (st : Stmt) (t : TS) : Prop :=
  ∀ (pins : List (Addr × Obj)) (s : Shared) (σ : St) (H : Hp) (D : Ends), Inv X pins σ H s → t D σ H → wpAny (model X.prog X.w) X.A (exec st X.env) (SP X pins D) X.xe s
noncomputable def PSs (X : Cx) (st : List Stmt) (t : TS) : Prop :=
  ∀ (pins : List (Addr × Obj)) (s : Shared) (σ : St) (H : Hp) (D : Ends), Inv X pins σ H s → t D σ H → wpAny (model X.prog X.w) X.A (execs st X.env) (SP X pins D) X.xe s
theorem thn {α : Type} {t : Sem α} {Q Q' : α → Shared → Prop} {M : Model} {A : Around} {E : Value → Shared → Prop} {s : Shared} (h : wpAny M A t Q E s) (hQ : ∀ a s, Q a s → Q' a s) : wpAny M A t Q' E s := wpAny_mono h hQ fun _ _ x => x
end L2
namespace L2
open PySem PySem.Spec PyProof.Rows
section
variable {X : Cx}
noncomputable def tVar (i : Nat) : TE := fun σ H Q => ∃ v, σ[i]? = some (some v) ∧ Q v H
noncomputable def tC (v : V) : TE := fun _ H Q => Q v H
theorem pe_var {i : Nat} {x : Str} {pos : Pos} (hN : X.N[i]? = some x) (hv : Vis X.env.scope x) (hd : (x == ("__debug__" : Str)) = false := by decide) (hcd : (x == ("__classdict__" : Str)) = false := by decide) : PE X (.Name x pos) (tVar i) := by
  intro pins s σ H Q I h
  obtain ⟨v, e, h⟩ := h
  obtain ⟨m, hn, hl⟩ := I.loc
  obtain ⟨u, r, l⟩ := hl i x v hN e hv
  have fin : EP X pins σ Q u s := ⟨v, H, I, r, h⟩
  rcases l with ⟨hk, hm⟩ | ⟨hk, c, hc, hcell⟩
  · exact wpAny_Name (wpAny_loadName_local I.ok.kind hk hn hm fin) hd
  · rcases hk with hk | hk
    · exact wpAny_Name (wpAny_loadName_cell I.ok.kind hk hc hcell fin) hd
    · exact wpAny_Name (wpAny_loadName_free I.ok.kind hk hc hcell fin hcd) hd
theorem pe_int {i j pos} : PE X (.Constant (.int i) j pos) (tC (.int i)) := fun _ _ _ H _ I h => wpAny_Constant_int ⟨.int i, H, I.tok _, ⟨_, rfl⟩, h⟩
theorem pe_bl {b j pos} : PE X (.Constant (.bool b) j pos) (tC (.bl b)) := fun _ _ _ H _ I h => Constant_bool ⟨.bl b, H, I, rfl, h⟩
theorem pe_non {j pos} : PE X (.Constant .none j pos) (tC .non) := fun _ _ _ H _ I h => Constant_none ⟨.non, H, I, rfl, h⟩
theorem pe_str {x j pos} : PE X (.Constant (.str x) j pos) (tC (.str x)) := fun _ _ _ H _ I h => Calls.Constant_str ⟨.str x, H, I.tok _, ⟨_, rfl⟩, h⟩
noncomputable def Gl (X : Cx) (x : Str) : Prop := X.env.kindOf x = some .globalImplicit
theorem ld_glob {E : Value → Shared → Prop} {pins : List (Addr × Obj)} {s : Shared} {σ : St} {H : Hp} {x : Str} {u : Value} {pos : Pos} {Q : Value → Shared → Prop} (I : Inv X pins σ H s) (hg : Gl X x) (hm : X.mg x = some u) (h : Q u s)
    (hd : (x == ("__debug__" : Str)) = false := by decide) : wpAny (model X.prog X.w) X.A (eval (.Name x pos) X.env) Q E s :=
  Calls.Name_function_global I.ok.kind hg (Calls.loadGlobal_global (by rw [I.ok.glob]; exact I.mod.glob.keeps I.bk) hm h) hd
theorem ld_blt {E : Value → Shared → Prop} {pins : List (Addr × Obj)} {s : Shared} {σ : St} {H : Hp} {x : Str} {u : Value} {pos : Pos} {Q : Value → Shared → Prop} (I : Inv X pins σ H s) (hg : Gl X x) (hm : X.mg x = none) (hv : bootBuiltins x = some u) (h : Q u s)
    (hn : x ≠ "__name__" := by decide) (hd : (x == ("__debug__" : Str)) = false := by decide) : wpAny (model X.prog X.w) X.A (eval (.Name x pos) X.env) Q E s := by
  obtain ⟨mb, h1, h2⟩ := I.mod.blt
  exact Calls.Name_function_global I.ok.kind hg (Calls.loadGlobal_builtin (by rw [I.ok.glob]; exact I.mod.glob.keeps I.bk) hm (by rw [I.ok.blt]; exact h1.keeps I.bk) ((h2 x hn).trans hv) h) hd
theorem pe_glob {x : Str} {v : V} {u : Value} {pos : Pos} (hg : Gl X x) (hm : X.mg x = some u) (r : RelV v u) (hd : (x == ("__debug__" : Str)) = false := by decide) : PE X (.Name x pos) (tC v) :=
  fun _ _ _ H _ I h => ld_glob I hg hm ⟨v, H, I, r, h⟩ hd
theorem pe_bltn {x : Str} {v : V} {u : Value} {pos : Pos} (hg : Gl X x) (hm : X.mg x = none) (hv : bootBuiltins x = some u) (r : RelV v u) (hn : x ≠ "__name__" := by decide) (hd : (x == ("__debug__" : Str)) = false := by decide) : PE X (.Name x pos) (tC v) :=
  fun _ _ _ H _ I h => ld_blt I hg hm hv ⟨v, H, I, r, h⟩ hn hd
variable {a b : Expr} {ta tb : TE} {pos : Pos}
noncomputable def tB (t : TE) : TT := fun σ H Q => t σ H fun x H1 => ∃ c, x = .bl c ∧ Q c H1
variable {tA tB' : TT} {rest : List Expr}
noncomputable def tAnd (t u : TT) : TT := fun σ H Q => t σ H fun c H1 => if c = true then u σ H1 Q else Q false H1
noncomputable def tOr (t u : TT) : TT := fun σ H Q => t σ H fun c H1 => if c = true then Q true H1 else u σ H1 Q
noncomputable def tNot (t : TT) : TT := fun σ H Q => t σ H fun c H1 => Q (!c) H1
theorem pw_and1 (ha : PT X a tA) : PW X (.BoolOp .And [a] pos) tA := by
  intro wh pins s σ H Q I h
  refine isTrue_and (thn (ha pins s σ H Q I h) fun c s1 e => ?_)
  cases c with
  | true => exact isTrue_and_nil e
  | false => exact e
theorem pw_or1 (ha : PT X a tA) : PW X (.BoolOp .Or [a] pos) tA := by
  intro wh pins s σ H Q I h
  refine isTrue_or (thn (ha pins s σ H Q I h) fun c s1 e => ?_)
  cases c with
  | false => exact isTrue_or_nil e
  | true => exact e
theorem pw_and (ha : PT X a tA) (hb : PW X (.BoolOp .And (b :: rest) pos) tB') : PW X (.BoolOp .And (a :: b :: rest) pos) (tAnd tA tB') := by
  intro wh pins s σ H Q I h
  refine isTrue_and (thn (ha pins s σ H _ I h) fun c s1 hh => ?_)
  obtain ⟨H1, I1, q1⟩ := hh
  cases c with
  | true => exact hb wh pins s1 σ H1 Q I1 q1
  | false => exact ⟨H1, I1, q1⟩
theorem pw_or (ha : PT X a tA) (hb : PW X (.BoolOp .Or (b :: rest) pos) tB') : PW X (.BoolOp .Or (a :: b :: rest) pos) (tOr tA tB') := by
  intro wh pins s σ H Q I h
  refine isTrue_or (thn (ha pins s σ H _ I h) fun c s1 hh => ?_)
  obtain ⟨H1, I1, q1⟩ := hh
  cases c with
  | true => exact ⟨H1, I1, q1⟩
  | false => exact hb wh pins s1 σ H1 Q I1 q1
theorem pt_not (ha : PT X a tA) : PT X (.UnaryOp .Not a pos) (tNot tA) := by
  intro pins s σ H Q I h
  exact isTrue_not (ha pins s σ H (fun c H1 => Q (!c) H1) I h)
theorem pe_one {op} {t : TE} (h : PE X a t) : PE X (.BoolOp op [a] pos) t := fun pins s σ H Q I hw => BoolOp_one (h pins s σ H Q I hw)
noncomputable def tIf (t : TT) (ta tb : TE) : TE := fun σ H Q => t σ H fun c H1 => if c = true then ta σ H1 Q else tb σ H1 Q
theorem pe_ifExp {c : Expr} (hc : PT X c tA) (ha : PE X a ta) (hb : PE X b tb) : PE X (.IfExp c a b pos) (tIf tA ta tb) := by
  intro pins s σ H Q I h
  refine wpAny_IfExp (thn (hc pins s σ H _ I h) fun d s1 hh => ?_)
  obtain ⟨H1, I1, q1⟩ := hh
  cases d with
  | true => exact ha pins s1 σ H1 Q I1 q1
  | false => exact hb pins s1 σ H1 Q I1 q1
end
end L2
namespace L2
open PySem PySem.Spec PyProof.Rows
noncomputable def SqL (K : PySem.W.Frag) (H : Hp) (a : Addr) (xs : List V) : Prop :=
  Rd H a (.lst xs) ∨
    ∃ (o : Obj) (its : Array Value) (n : Nat), K.lookup a = some o ∧ o.cls = .type "list" ∧ o.dict = none ∧ o.data = .seq its n ∧ its.size ≤ sizeLine ∧ Vals xs its.toList
noncomputable def SqT (K : PySem.W.Frag) (H : Hp) (a : Addr) (xs : List V) : Prop :=
  Rd H a (.tup xs) ∨
    ∃ (o : Obj) (its : Array Value) (n : Nat), K.lookup a = some o ∧ o.cls = .type "tuple" ∧ o.data = .seq its n ∧ its.size ≤ sizeLine ∧ Vals xs its.toList
noncomputable def absV : Value → Option V
  | .none => some .non
  | .bool b => some (.bl b)
  | .int i _ => some (.int i)
  | .str x _ => some (.str x)
  | .bytes b _ => some (.byt b)
  | .float b _ => some (.flt b)
  | .ref a => some (.ref a)
  | .type n => some (.ty n)
  | _ => none
theorem RelV.abs {x : V} {u : Value} (r : RelV x u) : absV u = some x := by
  cases x with
  | non => cases r; rfl
  | bl _ => cases r; rfl
  | int _ => obtain ⟨t, rfl⟩ := r; rfl
  | str _ => obtain ⟨t, rfl⟩ := r; rfl
  | byt _ => obtain ⟨t, rfl⟩ := r; rfl
  | flt _ => obtain ⟨t, rfl⟩ := r; rfl
  | ref _ => cases r; rfl
  | ty _ => cases r; rfl
theorem RelV.inj {x y : V} {u : Value} (r : RelV x u) (q : RelV y u) : x = y := Option.some.inj (r.abs.symm.trans q.abs)
theorem Vals.inj : ∀ {xs ys : List V} {us : List Value}, Vals xs us → Vals ys us → xs = ys := by
  intro xs ys us h
  induction h generalizing ys with
  | nil => intro g; cases g; rfl
  | cons r t ih =>
    intro g
    cases g with
    | cons r' t' => rw [r.inj r', ih t']
section
variable {X : Cx} {pins : List (Addr × Obj)} {σ : St} {H : Hp} {s : Shared} {a : Addr} {xs ys : List V}
theorem SqL.of {K : PySem.W.Frag} (h : H a = some (.lst xs)) : SqL K H a xs := .inl (.inl h)
theorem SqT.of {K : PySem.W.Frag} (h : H a = some (.tup xs)) : SqT K H a xs := .inl (.inl h)
theorem Inv.list (I : Inv X pins σ H s) (h : SqL X.K H a xs) : ∃ its : List Value, Vals xs its ∧ PlainL s.heap a its.toArray ∧ xs.length ≤ sizeLine := by
  rcases h with h | ⟨o, its, n, hk, hc, hd, hs, hz, r⟩
  · obtain ⟨z, its, n, r, e⟩ := h.ok I.hok
    exact ⟨its, r, ⟨_, n, e, rfl, rfl, rfl⟩, z⟩
  · refine ⟨its.toList, r, ⟨o, n, I.kIn a o hk, hc, hd, by simpa using hs⟩, ?_⟩
    have e := r.length
    simp only [Array.length_toList] at e
    lia
theorem Inv.tuple (I : Inv X pins σ H s) (h : SqT X.K H a xs) : ∃ its : List Value, Vals xs its ∧ IsTup s.heap a its.toArray ∧ xs.length ≤ sizeLine := by
  rcases h with h | ⟨o, its, n, hk, hc, hs, hz, r⟩
  · obtain ⟨z, its, r, p⟩ := h.ok I.hok
    exact ⟨its, r, p, z⟩
  · refine ⟨its.toList, r, ⟨o, I.kIn a o hk, hc, n, by simpa using hs⟩, ?_⟩
    have e := r.length
    simp only [Array.length_toList] at e
    lia
theorem Inv.list_inj (I : Inv X pins σ H s) (h : SqL X.K H a xs) (h' : SqL X.K H a ys) : xs = ys := by
  obtain ⟨its, r, ⟨o, n, e, _, _, d⟩, _⟩ := I.list h
  obtain ⟨its', r', ⟨o', n', e', _, _, d'⟩, _⟩ := I.list h'
  rw [e] at e'; cases e'
  rw [d] at d'
  injection d' with d1 _
  have : its = its' := by simpa using congrArg Array.toList d1
  subst this
  exact r.inj r'
theorem Inv.tuple_inj (I : Inv X pins σ H s) (h : SqT X.K H a xs) (h' : SqT X.K H a ys) : xs = ys := by
  obtain ⟨its, r, ⟨o, e, _, n, d⟩, _⟩ := I.tuple h
  obtain ⟨its', r', ⟨o', e', _, n', d'⟩, _⟩ := I.tuple h'
  rw [e] at e'; cases e'
  rw [d] at d'
  injection d' with d1 _
  have : its = its' := by simpa using congrArg Array.toList d1
  subst this
  exact r.inj r'
end
noncomputable abbrev Cx.wish (X : Cx) (E : Value → Shared → Prop) : Cx := { X with xe := E }
noncomputable abbrev Cx.nox (X : Cx) : Cx := X.wish fun _ _ => False
theorem Cx.Ok.wish {X : Cx} (ok : X.Ok) (E : Value → Shared → Prop) : (X.wish E).Ok :=
  ⟨ok.mod, ok.kind, ok.glob, ok.blt, ok.above, ok.inj, ok.has, ok.cab, ok.hd, ok.frames, ok.stk, ok.exf, ok.bs, ok.bsz, ok.noex, ok.exfs, ok.funs, ok.frf⟩
theorem Cx.Ok.unwish {X : Cx} {E : Value → Shared → Prop} (ok : (X.wish E).Ok) : X.Ok :=
  ⟨ok.mod, ok.kind, ok.glob, ok.blt, ok.above, ok.inj, ok.has, ok.cab, ok.hd, ok.frames, ok.stk, ok.exf, ok.bs, ok.bsz, ok.noex, ok.exfs, ok.funs, ok.frf⟩
section
variable {X : Cx} {pins : List (Addr × Obj)} {σ : St} {H : Hp} {s : Shared} {E : Value → Shared → Prop}
theorem Inv.wish (I : Inv X pins σ H s) (E : Value → Shared → Prop) : Inv (X.wish E) pins σ H s := ⟨I.ok.wish E, I.os, I.bare, I.base, I.loc, I.cell, I.free, I.freeC, I.pin, I.hok, I.len⟩
theorem Inv.unwish (I : Inv (X.wish E) pins σ H s) : Inv X pins σ H s := ⟨I.ok.unwish, I.os, I.bare, I.base, I.loc, I.cell, I.free, I.freeC, I.pin, I.hok, I.len⟩
theorem SP.unwish {D : Ends} {f : Flow} {s' : Shared} (h : SP (X.wish E) pins D f s') : SP X pins D f s' := by
  cases f with
  | next => obtain ⟨σ', H', I, q⟩ := h; exact ⟨σ', H', I.unwish, q⟩
  | brk => obtain ⟨σ', H', I, q⟩ := h; exact ⟨σ', H', I.unwish, q⟩
  | cont => obtain ⟨σ', H', I, q⟩ := h; exact ⟨σ', H', I.unwish, q⟩
  | ret u => obtain ⟨v, σ', H', I, r, q⟩ := h; exact ⟨v, σ', H', I.unwish, r, q⟩
theorem PSs.nox {st : List Stmt} {t : TS} (h : PSs X.nox st t) : PSs X st t := fun pins s σ H D I hw =>
  wpAny_mono (h pins s σ H D (I.wish _) hw) (fun _ _ q => q.unwish) fun _ _ z => False.elim z
end
section
variable {X : Cx} {st : Stmt} {rest : List Stmt} {t u : TS} {e : Expr} {te : TE} {pos : Pos}
noncomputable def tNext : TS := fun D σ H => D.nx σ H
noncomputable def tSeq (t u : TS) : TS := fun D σ H => t { D with nx := u D } σ H
theorem pss_nil : PSs X [] tNext := fun _ _ σ H _ I h => wpAny_execs_nil ⟨σ, H, I, h⟩
theorem pss_cons (h1 : PS X st t) (h2 : PSs X rest u) : PSs X (st :: rest) (tSeq t u) := by
  intro pins s σ H D I h
  refine wpAny_execs_cons (thn (h1 pins s σ H { D with nx := u D } I h) fun f s1 q => ?_)
  cases f with
  | next =>
    obtain ⟨σ', H', I', q⟩ := q
    exact h2 pins s1 σ' H' D I' q
  | ret v => exact q
  | brk => exact q
  | cont => exact q
theorem pss_one (h1 : PS X st t) : PSs X [st] t := by
  intro pins s σ H D I h
  refine wpAny_execs_cons (thn (h1 pins s σ H D I h) fun f s1 q => ?_)
  cases f with
  | next => exact wpAny_execs_nil q
  | ret v => exact q
  | brk => exact q
  | cont => exact q
theorem Inv.quiet {pins : List (Addr × Obj)} {σ : St} {H : Hp} {s : Shared} (I : Inv X pins σ H s) : interactive X.env = false := by simp [interactive, I.ok.kind]
noncomputable def tDrop (te : TE) : TS := fun D σ H => te σ H fun _ H1 => D.nx σ H1
theorem ps_expr (he : PE X e te) (hs : swapsWith e none pos.line X.env = pure false := by rfl) : PS X (.Expr e pos) (tDrop te) := by
  intro pins s σ H D I h
  exact wpAny_Expr_any (thn (he pins s σ H _ I h) fun v s1 ⟨x, H1, I1, r1, q1⟩ => ⟨σ, H1, I1, q1⟩) I.quiet hs
noncomputable def tRet (te : TE) : TS := fun D σ H => te σ H D.rt
theorem ps_ret (he : PE X e te) : PS X (.Return (some e) pos) (tRet te) := by
  intro pins s σ H D I h
  exact wpAny_Return_some (thn (he pins s σ H _ I h) fun v s1 ⟨x, H1, I1, r1, q1⟩ => ⟨x, σ, H1, I1, r1, q1⟩)
noncomputable def tIfS (c : TT) (t u : TS) : TS := fun D σ H => c σ H fun b H1 => if b = true then t D σ H1 else u D σ H1
theorem ps_if {c : Expr} {a b : List Stmt} {tc : TT} (hc : PT X c tc) (ha : PSs X a t) (hb : PSs X b u) : PS X (.If c a b pos) (tIfS tc t u) := by
  intro pins s σ H D I h
  refine wpAny_If (thn (hc pins s σ H _ I h) fun d s1 hh => ?_)
  obtain ⟨H1, I1, q1⟩ := hh
  cases d with
  | true => exact ha pins s1 σ H1 D I1 q1
  | false => exact hb pins s1 σ H1 D I1 q1
end
noncomputable abbrev TG := V → St → Hp → (St → Hp → Prop) → Prop
noncomputable abbrev TGs := List V → St → Hp → (St → Hp → Prop) → Prop
noncomputable def PG (X : Cx) (target : Expr) (t : TG) : Prop :=
  ∀ (pins : List (Addr × Obj)) (s : Shared) (σ : St) (H : Hp) (v : V) (u : Value) (Q : St → Hp → Prop), Inv X pins σ H s → RelV v u → t v σ H Q →
    wpAny (model X.prog X.w) X.A (assign target X.env u) (fun _ s' => ∃ σ' H', Inv X pins σ' H' s' ∧ Q σ' H') X.xe s
noncomputable def PGs (X : Cx) (ts : List Expr) (t : TGs) : Prop :=
  ∀ (pins : List (Addr × Obj)) (s : Shared) (σ : St) (H : Hp) (vs : List V) (us : List Value) (Q : St → Hp → Prop), Inv X pins σ H s → Vals vs us → t vs σ H Q →
    wpAny (model X.prog X.w) X.A (assignInOrder ((assignEach ts X.env).map (·.2)) us) (fun _ s' => ∃ σ' H', Inv X pins σ' H' s' ∧ Q σ' H') X.xe s
noncomputable abbrev TSet := V → V → V → Hp → (Hp → Prop) → Prop
noncomputable def PSet (X : Cx) (t : TSet) : Prop :=
  ∀ (pins : List (Addr × Obj)) (s : Shared) (σ : St) (H : Hp) (o i v : V) (ov iv u : Value) (Q : Hp → Prop), Inv X pins σ H s → RelV o ov → RelV i iv → RelV v u → t o i v H Q →
    wpAny (model X.prog X.w) X.A (setItem ov iv u) (fun _ s' => ∃ H', Inv X pins σ H' s' ∧ Q H') X.xe s
noncomputable abbrev TIp := V → V → Hp → VK → Prop
noncomputable def PIp (X : Cx) (op : Operator) (t : TIp) : Prop :=
  ∀ (pins : List (Addr × Obj)) (s : Shared) (σ : St) (H : Hp) (x y : V) (v u : Value) (Q : VK), Inv X pins σ H s → RelV x v → RelV y u → t x y H Q →
    wpAny (model X.prog X.w) X.A (inplaceOp op v u) (EP X pins σ Q) X.xe s
section
variable {X : Cx} {pos : Pos}
noncomputable def gName (i : Nat) : TG := fun v σ H Q => Q (σ.set i (some v)) H
theorem pg_name {i : Nat} {x : Str} (hN : X.N.Nodup) (hi : X.N[i]? = some x) (hx : Loc X.env.scope x) (hf : X.fn x = true ∨ X.env.scope.names.lookup x = some .local := by first | exact .inl rfl | exact .inr rfl | assumption) : PG X (.Name x pos) (gName i) := by
  intro pins s σ H v u Q I r h
  exact wpAny_assign_Name (store_ok I hN hi hx r (fun s' I' => ⟨_, H, I', h⟩) hf)
noncomputable def gNil : TGs := fun vs σ H Q => vs = [] ∧ Q σ H
noncomputable def gCons (t : TG) (u : TGs) : TGs := fun vs σ H Q => ∃ v r, vs = v :: r ∧ t v σ H fun σ' H' => u r σ' H' Q
theorem pgs_nil : PGs X [] gNil := by
  intro pins s σ H vs us Q I r h
  obtain ⟨e, h⟩ := h
  subst e
  cases r
  exact assignInOrder_nil ⟨σ, H, I, h⟩
theorem pgs_cons {e : Expr} {es : List Expr} {t : TG} {u : TGs} (h1 : PG X e t) (h2 : PGs X es u)
    (hs : (assignEach (e :: es) X.env).map (·.2) = assign e X.env :: (assignEach es X.env).map (·.2) := by rfl) : PGs X (e :: es) (gCons t u) := by
  intro pins s σ H vs us Q I r h
  obtain ⟨v, vr, e1, h⟩ := h
  subst e1
  cases r with
  | cons r rr =>
    rw [hs]
    refine assignInOrder_cons (thn (h1 pins s σ H _ _ _ I r h) fun _ s1 hh => ?_)
    obtain ⟨σ1, H1, I1, q1⟩ := hh
    exact h2 pins s1 σ1 H1 _ _ Q I1 rr q1
noncomputable def gSub (to ti : TE) (t : TSet) : TG := fun v σ H Q => to σ H fun o H1 => ti σ H1 fun i H2 => t o i v H2 fun H3 => Q σ H3
theorem pg_sub {o i : Expr} {to ti : TE} {t : TSet} (ho : PE X o to) (hi : PE X i ti) (hs : PSet X t)
    (ha : ∀ v, assign (.Subscript o i pos) X.env v = (do
      let ov ← holding [v] (eval o X.env)
      let iv ← holding [v, ov] (eval i X.env)
      standAt pos
      holding [v, ov, iv] (setItem ov iv v)
      release [v, ov, iv] []) := by intro _; rfl) : PG X (.Subscript o i pos) (gSub to ti t) := by
  intro pins s σ H v u Q I r h
  rw [ha]
  refine wpAny_bind (wpAny_holding (thn (ho pins s σ H _ I h) fun ov s1 hh => ?_))
  obtain ⟨x, H1, I1, r1, q1⟩ := hh
  refine wpAny_bind (wpAny_holding (thn (hi pins s1 σ H1 _ I1 q1) fun iv s2 hh => ?_))
  obtain ⟨y, H2, I2, r2, q2⟩ := hh
  refine wpAny_bind (wpAny_standAt (wpAny_bind (wpAny_holding (thn (hs pins s2 σ H2 x y v ov iv u _ I2 r1 r2 r q2) fun _ s3 hh => ?_))))
  obtain ⟨H3, I3, q3⟩ := hh
  exact wpAny_release ⟨σ, H3, I3, q3⟩
noncomputable def tAsg (te : TE) (g : TG) : TS := fun D σ H => te σ H fun x H1 => g x σ H1 D.nx
theorem ps_asg {tg e : Expr} {te : TE} {g : TG} (he : PE X e te) (hg : PG X tg g) (hs : swapsWithSole [tg] e pos.line X.env = pure false := by rfl) (hw : swappedStores [tg] e X.env = pure none := by rfl)
    (h1 : (assignEach [tg] X.env).map (·.2) = [assign tg X.env] := by rfl) : PS X (.Assign [tg] e pos) (tAsg te g) := by
  intro pins s σ H D I h
  refine wpAny_Assign_stores (thn (he pins s σ H _ I h) fun v s1 ⟨x, H1, I1, r1, q1⟩ => ?_) hs hw
  rw [h1]
  exact thn (hg pins s1 σ H1 x v _ I1 r1 q1) fun _ s2 q => q
theorem ps_set {i : Nat} {x : Str} {e : Expr} {te : TE} {pos' : Pos} (hN : X.N.Nodup) (hi : X.N[i]? = some x) (hx : Loc X.env.scope x) (he : PE X e te) (hs : swapsWith e (some (.Name x pos')) pos.line X.env = pure false := by rfl) (hf : X.fn x = true ∨ X.env.scope.names.lookup x = some .local := by first | exact .inl rfl | exact .inr rfl | assumption) :
    PS X (.Assign [.Name x pos'] e pos) (tAsg te (gName i)) := by
  intro pins s σ H D I h
  refine wpAny_Assign_Name (thn (he pins s σ H _ I h) fun v s1 ⟨y, H1, I1, r1, q1⟩ => ?_) hs
  exact store_ok I1 hN hi hx r1 (fun s2 I2 => ⟨_, H1, I2, q1⟩) hf
end
section
variable {X : Cx} {pos : Pos}
noncomputable def tWhile (c : TT) (tb : TS) : TS := fun D σ H => ∃ W : Nat → St → Hp → Prop, (∃ m, W m σ H) ∧ ∀ m σ H, W m σ H →
  c σ H fun b H1 => if b = true then ∃ N : St → Hp → Prop, (∀ σ' H', N σ' H' → ∃ m', m' < m ∧ W m' σ' H') ∧ tb { D with nx := N, ct := N, bk := D.nx } σ H1 else D.nx σ H1
theorem ps_while {c : Expr} {body : List Stmt} {tc : TT} {tb : TS} (hp : PassesOwn (model X.prog X.w) X.A X.env X.xe) (hc : PT X c tc) (hb : PSs X body tb) : PS X (.While c body [] pos) (tWhile tc tb) := by
  intro pins s σ H D I h
  obtain ⟨W, ⟨m0, w0⟩, turn⟩ := h
  refine wpAny_While (codeAny_whileLoop (fun n s' => ∃ σ' H', Inv X pins σ' H' s' ∧ W n σ' H') ?_ m0 ⟨σ, H, I, w0⟩)
  rintro n s1 ⟨σ1, H1, I1, w1⟩
  refine wpAny_passesOwn hp (thn (hc pins s1 σ1 H1 _ I1 (turn n σ1 H1 w1)) fun b s2 hh => ?_)
  obtain ⟨H2, I2, q2⟩ := hh
  cases b with
  | true =>
    obtain ⟨N, hN, q2⟩ := q2
    rw [if_pos rfl]
    refine wpAny_passesOwn hp (thn (hb pins s2 σ1 H2 _ I2 q2) fun f s3 q3 => ?_)
    cases f with
    | next =>
      obtain ⟨σ3, H3, I3, n3⟩ := q3
      obtain ⟨m', hm, w3⟩ := hN σ3 H3 n3
      exact ⟨m', hm, σ3, H3, I3, w3⟩
    | cont =>
      obtain ⟨σ3, H3, I3, n3⟩ := q3
      obtain ⟨m', hm, w3⟩ := hN σ3 H3 n3
      exact ⟨m', hm, σ3, H3, I3, w3⟩
    | brk => exact q3
    | ret v => exact q3
  | false =>
    rw [if_neg Bool.false_ne_true]
    exact wpAny_execs_nil ⟨σ1, H2, I2, q2⟩
end
structure It where
  go : Nat → Hp → Prop
  yld : Nat → Hp → V → Hp → Prop
  stop : Nat → Hp → Prop
noncomputable def FpOk (X : Cx) (pins : List (Addr × Obj)) (H : Hp) (b : Addr) : Prop :=
  H b = none ∧ b ≠ X.env.locals ∧ b ∉ X.fs ∧ (b ∈ X.ex ∨ X.s₀.heap.objs.size ≤ b) ∧ (∀ x c, X.env.cells.lookup x = some c → c ≠ b) ∧ ∀ p ∈ X.pn ++ pins, p.1 ≠ b
theorem Inv.fpOk {X : Cx} {pins : List (Addr × Obj)} {σ : St} {H H' : Hp} {s : Shared} {b : Addr} (I : Inv X pins σ H s) (hb : s.heap.objs.size ≤ b) (hn : H' b = none) : FpOk X pins H' b := by
  refine ⟨hn, Nat.ne_of_gt (Nat.lt_of_lt_of_le I.lt hb), I.nofs hb, .inr (Nat.le_trans I.sz hb), fun x c e z => ?_, fun p hp z => ?_⟩
  · obtain ⟨v, q⟩ := I.cell x c e
    exact absurd (Nat.lt_of_lt_of_le q.lt (by rw [z]; exact hb)) (Nat.lt_irrefl _)
  · exact absurd (Nat.lt_of_lt_of_le (Heap.lt_size (I.pin p hp).1) (by rw [z]; exact hb)) (Nat.lt_irrefl _)
structure Turn (P : Program) (w : World) (K : PySem.W.Frag) (tg : Expr) (J : It) (fp : List Addr) (it : Addr) (tn : Nat → Heap → Prop) : Prop where
  mem : it ∈ fp
  obj : ∀ i h, tn i h → ∀ b ∈ fp, ∃ o, h.get? b = some o ∧ ∀ v, o.data ≠ .cell v
  keep : ∀ i h h', tn i h → (∀ b ∈ fp, ∀ o, h.get? b = some o → h'.get? b = some o) → tn i h'
  item : ∀ (X : Cx), X.prog = P → X.w = w → X.K = K → X.calm = true → ∀ (i : Nat) (pins : List (Addr × Obj)) (s : Shared) (σ : St) (H : Hp) (E : Value → Shared → Prop), Inv X pins σ H s → (∀ b ∈ fp, FpOk X pins H b) → tn i s.heap → J.go i H →
    wpAny (model P w) X.A (pyNext (.ref it)) (fun r s1 => ∃ u, r = some u ∧
      wpAny (model P w) X.A (letOwnedTupleGo tg (.ref it) u) (fun _ s2 => ∃ x H', Inv X pins σ H' s2 ∧ RelV x u ∧ J.yld i H x H' ∧ tn (i + 1) s2.heap ∧ ∀ b ∈ fp, H' b = none) E s1) E s
  done : ∀ (X : Cx), X.prog = P → X.w = w → X.K = K → X.calm = true → ∀ (i : Nat) (pins : List (Addr × Obj)) (s : Shared) (σ : St) (H : Hp) (E : Value → Shared → Prop), Inv X pins σ H s → (∀ b ∈ fp, FpOk X pins H b) → tn i s.heap → J.stop i H →
    wpAny (model P w) X.A (pyNext (.ref it)) (fun r s1 => r = none ∧ Inv X pins σ H s1) E s
  self : ∀ (A : Around) (i : Nat) (s : Shared) (Q : Value → Shared → Prop) (E : Value → Shared → Prop), tn i s.heap → Q (.ref it) s → wpAny (model P w) A (pyIter (.ref it)) Q E s
noncomputable abbrev TI := St → Hp → (It → Hp → Prop) → Prop
noncomputable def PIE (X : Cx) (pins : List (Addr × Obj)) (σ : St) (tg : Expr) (R : It → Hp → Prop) (itv : Value) (s2 : Shared) : Prop :=
  ∃ (it : Addr) (fp : List Addr) (tn : Nat → Heap → Prop) (J : It) (H' : Hp), itv = .ref it ∧ Inv X pins σ H' s2 ∧ Turn X.prog X.w X.K tg J fp it tn ∧ tn 0 s2.heap ∧ (∀ b ∈ fp, FpOk X pins H' b) ∧ R J H'
noncomputable def PI (X : Cx) (tg iter : Expr) (wi : TI) : Prop :=
  ∀ (pins : List (Addr × Obj)) (s : Shared) (σ : St) (H : Hp) (R : It → Hp → Prop), Inv X pins σ H s → wi σ H R →
    wpAny (model X.prog X.w) X.A (eval iter X.env) (fun v s1 => wpAny (model X.prog X.w) X.A (pyIter v) (PIE X pins σ tg R) X.xe s1) X.xe s
theorem go_of {M : Model} {A : Around} {E : Value → Shared → Prop} {s : Shared} {tg : Expr} {it : Addr} {u : Value} {o : Obj} {n : String} {vs : Array Value} {Q : Unit → Shared → Prop} (ho : s.heap.get? it = some o) (hc : o.cls = .type n) (hd : o.data = .fields vs)
    (hn : ["enumerate", "zip", "dict_itemiterator", "dict_reverseitemiterator", "odict_iterator", "itertools.zip_longest", "itertools.pairwise"].contains n = false) (hQ : Q () s) : wpAny M A (letOwnedTupleGo tg (.ref it) u) Q E s := by
  unfold letOwnedTupleGo
  cases tg <;> first
    | exact wpAny_pure hQ
    | (cases u <;> first
        | exact wpAny_pure hQ
        | (refine wpAny_bind (wpAny_load ho ?_)
           rw [hc, hd]
           show wpAny M A (if (["enumerate", "zip", "dict_itemiterator", "dict_reverseitemiterator", "odict_iterator", "itertools.zip_longest", "itertools.pairwise"].contains n && vs[0]? == some (rawInt _)) = true then _ else _) Q E s
           rw [if_neg (by intro h; rw [hn, Bool.false_and] at h; cases h)]
           exact wpAny_pure hQ))
noncomputable def Itl (K : PySem.W.Frag) (a : Addr) : It :=
  ⟨fun i H => ∃ xs x, SqL K H a xs ∧ xs[i]? = some x, fun i H x H' => H' = H ∧ ∀ xs, SqL K H a xs → xs[i]? = some x, fun i H => ∃ xs, SqL K H a xs ∧ xs.length ≤ i⟩
noncomputable def Itt (K : PySem.W.Frag) (a : Addr) : It :=
  ⟨fun i H => ∃ xs x, SqT K H a xs ∧ xs[i]? = some x, fun i H x H' => H' = H ∧ ∀ xs, SqT K H a xs → xs[i]? = some x, fun i H => ∃ xs, SqT K H a xs ∧ xs.length ≤ i⟩
noncomputable def Itr (lo : Int) (n : Nat) : It := ⟨fun i _ => i < n, fun i H x H' => H' = H ∧ x = .int (lo + i), fun i _ => n ≤ i⟩
theorem turn_list {P : Program} {w : World} {K : PySem.W.Frag} {tg : Expr} (a it : Addr) : Turn P w K tg (Itl K a) [it] it (fun i h => h.IsListIter it a i) where
  mem := by simp
  obj := fun i h st b hb => by
    have e : b = it := by simpa using hb
    subst e
    obtain ⟨o, e, c, d⟩ := st
    exact ⟨o, e, fun v z => by rw [d] at z; cases z⟩
  keep := fun i h h' st k => st.at fun o e => k it (by simp) o e
  item := by
    intro X hP hw hK hc i pins s σ H E I hf st hg
    subst hP hw hK
    obtain ⟨xs, x, hq, hx⟩ := hg
    obtain ⟨its, rv, p, hz⟩ := I.list hq
    obtain ⟨u, hu, ru⟩ := rv.get hx
    obtain ⟨f0, f1, f2, f3, f4, f5⟩ := hf it (by simp)
    refine wpAny_pyNext_list_item st p.isList (x := u) (by simpa using hu) fun h' st' sb => ?_
    have I1 : Inv X pins σ H { s with heap := h' } := I.turned (t' := s.toks) (fun b o hb e => (sb.2 b hb).trans e) f0 f1 f3 f4 f5
    obtain ⟨o, e, c, d⟩ := id st'
    exact ⟨u, rfl, go_of (s := { s with heap := h' }) e c d (by decide) ⟨x, H, I1, ru, ⟨rfl, fun ys hy => by rw [I.list_inj hy hq]; exact hx⟩, st', fun b hb => (hf b hb).1⟩⟩
  done := by
    intro X hP hw hK hc i pins s σ H E I hf st hg
    subst hP hw hK
    obtain ⟨xs, hq, hx⟩ := hg
    obtain ⟨its, rv, p, hz⟩ := I.list hq
    obtain ⟨f0, f1, f2, f3, f4, f5⟩ := hf it (by simp)
    have hl := rv.length
    exact wpAny_pyNext_list_end (I.ok.hd hc) st p.isList (by simp; lia) fun h' eb => ⟨rfl, I.turned (t' := s.toks) (fun b o hb e => eb b o hb e) f0 f1 f3 f4 f5⟩
  self := fun _ _ _ _ _ st h => wpAny_pyIter_listiter st h
theorem turn_tuple {P : Program} {w : World} {K : PySem.W.Frag} {tg : Expr} (a it : Addr) : Turn P w K tg (Itt K a) [it] it (fun i h => h.IsTupleIter it a i) where
  mem := by simp
  obj := fun i h st b hb => by
    have e : b = it := by simpa using hb
    subst e
    obtain ⟨o, e, c, d⟩ := st
    exact ⟨o, e, fun v z => by rw [d] at z; cases z⟩
  keep := fun i h h' st k => st.at fun o e => k it (by simp) o e
  item := by
    intro X hP hw hK hc i pins s σ H E I hf st hg
    subst hP hw hK
    obtain ⟨xs, x, hq, hx⟩ := hg
    obtain ⟨its, rv, p, hz⟩ := I.tuple hq
    obtain ⟨u, hu, ru⟩ := rv.get hx
    obtain ⟨f0, f1, f2, f3, f4, f5⟩ := hf it (by simp)
    refine wpAny_pyNext_tuple_item st (show s.heap.IsTuple a its.toArray from p) (x := u) (by simpa using hu) fun h' st' sb => ?_
    have I1 : Inv X pins σ H { s with heap := h' } := I.turned (t' := s.toks) (fun b o hb e => (sb.2 b hb).trans e) f0 f1 f3 f4 f5
    obtain ⟨o, e, c, d⟩ := id st'
    exact ⟨u, rfl, go_of (s := { s with heap := h' }) e c d (by decide) ⟨x, H, I1, ru, ⟨rfl, fun ys hy => by rw [I.tuple_inj hy hq]; exact hx⟩, st', fun b hb => (hf b hb).1⟩⟩
  done := by
    intro X hP hw hK hc i pins s σ H E I hf st hg
    subst hP hw hK
    obtain ⟨xs, hq, hx⟩ := hg
    obtain ⟨its, rv, p, hz⟩ := I.tuple hq
    obtain ⟨f0, f1, f2, f3, f4, f5⟩ := hf it (by simp)
    have hl := rv.length
    exact wpAny_pyNext_tuple_end (I.ok.hd hc) st (show s.heap.IsTuple a its.toArray from p) (by simp; lia) fun h' eb => ⟨rfl, I.turned (t' := s.toks) (fun b o hb e => eb b o hb e) f0 f1 f3 f4 f5⟩
  self := fun _ _ _ _ _ st h => wpAny_pyIter_tupleiter st h
theorem turn_range {P : Program} {w : World} {K : PySem.W.Frag} {tg : Expr} (it : Addr) (lo : Int) (n : Nat) : Turn P w K tg (Itr lo n) [it] it (fun i h => IsRangeIter h it (lo + (i : Nat) * 1) ((n : Int) - (i : Nat)) 1) where
  mem := by simp
  obj := fun i h st b hb => by
    have e : b = it := by simpa using hb
    subst e
    exact ⟨_, st, fun v z => by
      have z' : Data.fields _ = Data.cell v := z
      cases z'⟩
  keep := fun i h h' st k => k it (by simp) _ st
  item := by
    intro X hP hw hK hc i pins s σ H E I hf st hg
    subst hP hw hK
    obtain ⟨f0, f1, f2, f3, f4, f5⟩ := hf it (by simp)
    have W := Walks.range (prog := X.prog) (w := X.w) (I.ok.hd hc) it lo 1 n
    refine W.item i s _ _ hg st fun v h' tk hv st' kk => ?_
    obtain ⟨t, rfl⟩ := hv
    have I1 : Inv X pins σ H { s with heap := h', toks := tk } := I.turned (fun b o hb e => kk b o (by simpa using hb) e) f0 f1 f3 f4 f5
    refine ⟨_, rfl, go_of (s := { s with heap := h', toks := tk }) (n := "range_iterator") st' rfl rfl (by decide) ⟨.int (lo + i), H, I1, ⟨t, ?_⟩, ⟨rfl, rfl⟩, st', fun b hb => (hf b hb).1⟩⟩
    rw [Int.mul_one]
  done := by
    intro X hP hw hK hc i pins s σ H E I hf st hg
    subst hP hw hK
    obtain ⟨f0, f1, f2, f3, f4, f5⟩ := hf it (by simp)
    exact wpAny_pyNext_range_end (I.ok.hd hc) st (by have : n ≤ i := hg; lia) fun h' eb => ⟨rfl, I.turned (t' := s.toks) (fun b o hb e => eb b o hb e) f0 f1 f3 f4 f5⟩
  self := fun _ _ _ _ _ st h => wpAny_pyIter_rangeiter st h
end L2
namespace L2
open PySem PySem.Spec PyProof.Rows
section
variable {X : Cx} {tg : Expr}
theorem range_it {pins : List (Addr × Obj)} {σ : St} {H : Hp} {s : Shared} {R : It → Hp → Prop} {E : Value → Shared → Prop} {lo hi : Int} {t u v : Tok} {tk : Nat} (I : Inv X pins σ H s) (h1 : -(2 ^ 62) ≤ lo) (h2 : lo < 2 ^ 62) (h3 : -(2 ^ 62) ≤ hi) (h4 : hi < 2 ^ 62)
    (q : R (Itr lo (hi - lo).toNat) H) : wpAny (model X.prog X.w) X.A (pyIter (.ref s.heap.objs.size)) (PIE X pins σ tg R) E { s with heap := s.heap.push { cls := .type "range", data := .fields #[.int lo t, .int hi u, .int 1 v] }, toks := tk } := by
  refine wpAny_pyIter_range (IsRange.new ..) (small_one h1 h2 h3 h4) ?_
  have I1 : Inv X pins σ H { s with heap := s.heap.push { cls := .type "range", data := .fields #[.int lo t, .int hi u, .int 1 v] }, toks := tk } := I.kept fun b o e => Heap.get?_push_of_some _ e
  refine ⟨(s.heap.push { cls := .type "range", data := .fields #[.int lo t, .int hi u, .int 1 v] }).objs.size, [(s.heap.push { cls := .type "range", data := .fields #[.int lo t, .int hi u, .int 1 v] }).objs.size], _, _, H, rfl,
    I1.kept (t' := tk) fun b o e => Heap.get?_push_of_some _ e, turn_range _ lo (hi - lo).toNat, ?_, fun b hb => ?_, q⟩
  · have e1 : lo + ((0 : Nat) : Int) * 1 = lo := by simp
    have e2 : (((hi - lo).toNat : Nat) : Int) - ((0 : Nat) : Int) = Builtin.Range.rangeSize lo hi 1 := by rw [rangeSize_one]; split <;> lia
    show IsRangeIter _ _ (lo + ((0 : Nat) : Int) * 1) ((((hi - lo).toNat : Nat) : Int) - ((0 : Nat) : Int)) 1
    rw [e1, e2]
    exact Heap.get?_push_size _ rfl
  · have e : b = (s.heap.push { cls := .type "range", data := .fields #[.int lo t, .int hi u, .int 1 v] }).objs.size := by simpa using hb
    subst e
    exact I1.fpOk (Nat.le_refl _) (I1.hok.fresh (Nat.le_refl _))
noncomputable def iRng1 (ta : TA) : TI := fun σ H R => ta σ H fun vs H1 => ∃ j : Int, vs = [.int j] ∧ -(2 ^ 62) ≤ j ∧ j < 2 ^ 62 ∧ R (Itr 0 j.toNat) H1
theorem pi_range1 {a : Expr} {ta : TA} {p pos : Pos} (hg : Gl X "range") (hm : X.mg "range" = none) (ha : PA X [a] ta) (hs : starEach [a] X.env = [(false, eval a X.env)] := by rfl) : PI X tg (.Call (.Name "range" p) [a] [] pos) (iRng1 ta) := by
  intro pins s σ H R I h
  refine Call_ (ld_blt I hg hm boot_range (PyProof.Rows.callWith_type1 (thn (ha pos pins s σ H _ I h) fun us s1 ⟨vs, H1, I1, r1, q1⟩ => ?_) hs rfl))
  obtain ⟨j, e, q1, q2, q⟩ := q1
  subst e
  cases r1 with
  | cons r rr =>
    cases rr
    obtain ⟨t, rfl⟩ := r
    exact call_range_1 (range_it I1 (by lia) (by lia) q1 q2 (by simpa using q))
noncomputable def tFor (wi : TI) (g : TG) (tb : TS) : TS := fun D σ H => wi σ H fun J H1 => ∃ W : Nat → Nat → St → Hp → Prop, (∃ m, W 0 m σ H1) ∧ ∀ i m σ H, W i m σ H →
  (J.stop i H ∧ D.nx σ H) ∨ (J.go i H ∧ ∃ N : St → Hp → Prop, (∀ σ' H', N σ' H' → ∃ m', m' < m ∧ W (i + 1) m' σ' H') ∧ ∀ x H', J.yld i H x H' → g x σ H' fun σ2 H2 => tb { D with nx := N, ct := N, bk := D.nx } σ2 H2)
noncomputable def pinsAt (fp : List Addr) (h : Heap) : List (Addr × Obj) := fp.filterMap fun b => (h.get? b).map fun o => (b, o)
theorem mem_pinsAt {fp : List Addr} {h : Heap} {b : Addr} {o : Obj} (hb : b ∈ fp) (e : h.get? b = some o) : (b, o) ∈ pinsAt fp h := List.mem_filterMap.mpr ⟨b, hb, by rw [e]; rfl⟩
theorem of_pinsAt {fp : List Addr} {h : Heap} {p : Addr × Obj} (hp : p ∈ pinsAt fp h) : p.1 ∈ fp ∧ h.get? p.1 = some p.2 := by
  obtain ⟨b, hb, e⟩ := List.mem_filterMap.mp hp
  cases q : h.get? b with
  | none => rw [q] at e; cases e
  | some o =>
    rw [q] at e
    have e' : (b, o) = p := Option.some.inj e
    subst e'
    exact ⟨hb, q⟩
theorem Inv.pinned {pins : List (Addr × Obj)} {σ : St} {H : Hp} {s : Shared} {fp : List Addr} (I : Inv X pins σ H s) (hf : ∀ b ∈ fp, FpOk X pins H b) (ho : ∀ b ∈ fp, ∃ o, s.heap.get? b = some o ∧ ∀ v, o.data ≠ .cell v) : Inv X (pins ++ pinsAt fp s.heap) σ H s :=
  I.pins_of fun p hp => (List.mem_append.mp hp).elim (fun z => I.pin p (List.mem_append_right _ z)) fun z => by
    obtain ⟨hb, e⟩ := of_pinsAt z
    obtain ⟨f0, f1, f2, _⟩ := hf p.1 hb
    obtain ⟨o, e', d⟩ := ho p.1 hb
    rw [e] at e'; cases e'
    exact ⟨e, f0, f1, f2, d⟩
theorem Inv.unpinned {pins pl : List (Addr × Obj)} {σ : St} {H : Hp} {s : Shared} (I : Inv X (pins ++ pl) σ H s) : Inv X pins σ H s := I.pins_of fun p hp => I.pin p (List.mem_append_right _ (List.mem_append_left _ hp))
theorem ps_for {iter : Expr} {body : List Stmt} {wi : TI} {g : TG} {tb : TS} {pos : Pos} (hp : PassesOwn (model X.prog X.w) X.A X.env X.xe) (hc : X.calm = true) (hi : PI X tg iter wi) (hg : PG X tg g) (hb : PSs X body tb)
    (hs : ∀ x, foldedSetIterable iter X.env x = pure x := by intro _; rfl) : PS X (.For tg iter body [] pos) (tFor wi g tb) := by
  intro pins s σ H D I h
  refine wpAny_For (thn (hi pins s σ H _ I h) fun v s1 h1 => thn h1 fun itv s2 h2 => ?_) hs
  obtain ⟨it, fp, tn, J, H2, e, I2, T, st2, f2, W, ⟨m0, w0⟩, turn⟩ := h2
  subst e
  -- what stays true of the iterator's objects through the loop
  have stat : ∀ {H' : Hp}, (∀ b ∈ fp, H' b = none) → ∀ b ∈ fp, FpOk X pins H' b := fun hn b hb => ⟨hn b hb, (f2 b hb).2⟩
  refine codeAny_forLoop_any (fun n s' => ∃ i σ' H', Inv X pins σ' H' s' ∧ tn i s'.heap ∧ (∀ b ∈ fp, H' b = none) ∧ W i n σ' H') ?_ m0 ⟨0, σ, H2, I2, st2, fun b hb => (f2 b hb).1, w0⟩
  rintro n s3 ⟨i, σ3, H3, I3, st3, fr3, w3⟩
  rcases turn i n σ3 H3 w3 with ⟨stop, qn⟩ | ⟨go, N, hN, step⟩
  · refine wpAny_passesOwn hp (thn (T.done X rfl rfl rfl hc i pins s3 σ3 H3 X.xe I3 (stat fr3) st3 stop) fun r s4 hh => ?_)
    obtain ⟨hr, I4⟩ := hh
    subst hr
    exact wpAny_execs_nil ⟨σ3, H3, I4, qn⟩
  · refine wpAny_passesOwn hp (thn (T.item X rfl rfl rfl hc i pins s3 σ3 H3 X.xe I3 (stat fr3) st3 go) fun r s4 hh => ?_)
    obtain ⟨u, hr, h4⟩ := hh
    subst hr
    refine wpAny_passesOwn hp (thn h4 fun _ s5 hh => ?_)
    obtain ⟨x, H5, I5, r5, y5, st5, fr5⟩ := hh
    have I5' := I5.pinned (stat fr5) (T.obj _ _ st5)
    refine wpAny_passesOwn hp (thn (hg _ s5 σ3 H5 x u _ I5' r5 (step x H5 y5)) fun _ s6 hh => ?_)
    obtain ⟨σ6, H6, I6, q6⟩ := hh
    refine wpAny_passesOwn hp (thn (hb _ s6 σ6 H6 _ I6 q6) fun f s7 q7 => ?_)
    have again : ∀ {σ7 : St} {H7 : Hp}, Inv X (pins ++ pinsAt fp s5.heap) σ7 H7 s7 → N σ7 H7 → ∃ m, m < n ∧ ∃ i σ' H', Inv X pins σ' H' s7 ∧ tn i s7.heap ∧ (∀ b ∈ fp, H' b = none) ∧ W i m σ' H' := fun {σ7 H7} I7 n7 => by
      obtain ⟨m', hm, w7⟩ := hN σ7 H7 n7
      refine ⟨m', hm, i + 1, σ7, H7, I7.unpinned, T.keep _ _ _ st5 fun b hb o e => (I7.pin (b, o) (List.mem_append_right _ (List.mem_append_right _ (mem_pinsAt hb e)))).1, fun b hb => ?_, w7⟩
      obtain ⟨o, e, d⟩ := T.obj _ _ st5 b hb
      exact (I7.pin (b, o) (List.mem_append_right _ (List.mem_append_right _ (mem_pinsAt hb e)))).2.1
    cases f with
    | next => obtain ⟨σ7, H7, I7, n7⟩ := q7; exact again I7 n7
    | cont => obtain ⟨σ7, H7, I7, n7⟩ := q7; exact again I7 n7
    | brk => obtain ⟨σ7, H7, I7, q7⟩ := q7; exact ⟨σ7, H7, I7.unpinned, q7⟩
    | ret v => obtain ⟨x7, σ7, H7, I7, r7, q7⟩ := q7; exact ⟨x7, σ7, H7, I7.unpinned, r7, q7⟩
end
theorem for_list {K : PySem.W.Frag} {a : Addr} {xs : List V} {g : TG} {tb : TS} {D : Ends} {σ : St} {H : Hp} (Pv : Nat → St → Hp → Prop) (h0 : Pv 0 σ H) (hl : ∀ i σ H, i ≤ xs.length → Pv i σ H → SqL K H a xs)
    (hs : ∀ i x σ H, xs[i]? = some x → Pv i σ H → g x σ H fun σ2 H2 => tb { D with nx := Pv (i + 1), ct := Pv (i + 1), bk := D.nx } σ2 H2) (hd : ∀ σ H, Pv xs.length σ H → D.nx σ H) :
    ∃ W : Nat → Nat → St → Hp → Prop, (∃ m, W 0 m σ H) ∧ ∀ i m σ H, W i m σ H →
      ((Itl K a).stop i H ∧ D.nx σ H) ∨ ((Itl K a).go i H ∧ ∃ N : St → Hp → Prop, (∀ σ' H', N σ' H' → ∃ m', m' < m ∧ W (i + 1) m' σ' H') ∧ ∀ x H', (Itl K a).yld i H x H' → g x σ H' fun σ2 H2 => tb { D with nx := N, ct := N, bk := D.nx } σ2 H2) := by
  refine ⟨fun i m σ H => m = xs.length - i ∧ i ≤ xs.length ∧ Pv i σ H, ⟨xs.length, by simp, Nat.zero_le _, h0⟩, ?_⟩
  rintro i m σ H ⟨rfl, hi, p⟩
  have q := hl i σ H hi p
  by_cases hlt : i < xs.length
  · refine .inr ⟨⟨xs, xs[i], q, by simp [hlt]⟩, Pv (i + 1), fun σ' H' p' => ⟨xs.length - (i + 1), by lia, rfl, hlt, p'⟩, fun x H' y => ?_⟩
    obtain ⟨e, y⟩ := y
    subst e
    exact hs i x σ _ (y xs q) p
  · have e : i = xs.length := by lia
    subst e
    exact .inl ⟨⟨xs, q, Nat.le_refl _⟩, hd σ H p⟩
theorem for_range {lo : Int} {n : Nat} {g : TG} {tb : TS} {D : Ends} {σ : St} {H : Hp} (Pv : Nat → St → Hp → Prop) (h0 : Pv 0 σ H)
    (hs : ∀ i σ H, i < n → Pv i σ H → g (.int (lo + i)) σ H fun σ2 H2 => tb { D with nx := Pv (i + 1), ct := Pv (i + 1), bk := D.nx } σ2 H2) (hd : ∀ σ H, Pv n σ H → D.nx σ H) :
    ∃ W : Nat → Nat → St → Hp → Prop, (∃ m, W 0 m σ H) ∧ ∀ i m σ H, W i m σ H →
      ((Itr lo n).stop i H ∧ D.nx σ H) ∨ ((Itr lo n).go i H ∧ ∃ N : St → Hp → Prop, (∀ σ' H', N σ' H' → ∃ m', m' < m ∧ W (i + 1) m' σ' H') ∧ ∀ x H', (Itr lo n).yld i H x H' → g x σ H' fun σ2 H2 => tb { D with nx := N, ct := N, bk := D.nx } σ2 H2) := by
  refine ⟨fun i m σ H => m = n - i ∧ i ≤ n ∧ Pv i σ H, ⟨n, by simp, Nat.zero_le _, h0⟩, ?_⟩
  rintro i m σ H ⟨rfl, hi, p⟩
  by_cases hlt : i < n
  · refine .inr ⟨hlt, Pv (i + 1), fun σ' H' p' => ⟨n - (i + 1), by lia, rfl, hlt, p'⟩, fun x H' y => ?_⟩
    obtain ⟨e, y⟩ := y
    subst e y
    exact hs i σ _ hlt p
  · have e : i = n := by lia
    subst e
    exact .inl ⟨Nat.le_refl _, hd σ H p⟩
end L2
namespace L2
open PySem PySem.Spec PyProof.Rows
noncomputable abbrev R2 := V → V → Hp → VK → Prop
noncomputable def OpR (X : Cx) (f : Value → Value → Sem Value) (r : R2) : Prop :=
  ∀ (pins : List (Addr × Obj)) (s : Shared) (σ : St) (H : Hp) (x y : V) (v u : Value) (Q : VK), Inv X pins σ H s → RelV x v → RelV y u → r x y H Q →
    wpAny (model X.prog X.w) X.A (f v u) (EP X pins σ Q) X.xe s
noncomputable def UnR (X : Cx) (f : Value → Sem Value) (r : V → Hp → VK → Prop) : Prop :=
  ∀ (pins : List (Addr × Obj)) (s : Shared) (σ : St) (H : Hp) (x : V) (v : Value) (Q : VK), Inv X pins σ H s → RelV x v → r x H Q →
    wpAny (model X.prog X.w) X.A (f v) (EP X pins σ Q) X.xe s
noncomputable def CallR (X : Cx) (f : Value) (r : List V → Hp → VK → Prop) : Prop :=
  ∀ (pins : List (Addr × Obj)) (s : Shared) (σ : St) (H : Hp) (xs : List V) (us : List Value) (Q : VK), Inv X pins σ H s → Vals xs us → r xs H Q →
    wpAny (model X.prog X.w) X.A (call f us) (EP X pins σ Q) X.xe s
noncomputable def TruR (X : Cx) (r : V → Hp → (Bool → Hp → Prop) → Prop) : Prop :=
  ∀ (pins : List (Addr × Obj)) (s : Shared) (σ : St) (H : Hp) (x : V) (v : Value) (Q : Bool → Hp → Prop), Inv X pins σ H s → RelV x v → r x H Q →
    wpAny (model X.prog X.w) X.A (truthy v) (TP X pins σ Q) X.xe s
noncomputable def tOp (r : R2) (ta tb : TE) : TE := fun σ H Q => ta σ H fun x H1 => tb σ H1 fun y H2 => r x y H2 Q
noncomputable def tUn (r : V → Hp → VK → Prop) (ta : TE) : TE := fun σ H Q => ta σ H fun x H1 => r x H1 Q
noncomputable def rI (C : Int → Int → Prop) (g : Int → Int → V) : R2 := fun x y H Q => ∃ i j, x = .int i ∧ y = .int j ∧ C i j ∧ Q (g i j) H
noncomputable def rI0 (g : Int → Int → V) : R2 := fun x y H Q => ∃ i j, x = .int i ∧ y = .int j ∧ Q (g i j) H
noncomputable def rU (g : Int → V) : V → Hp → VK → Prop := fun x H Q => ∃ i, x = .int i ∧ Q (g i) H
section
variable {X : Cx} {a b c : Expr} {ta tb tc : TE} {pos : Pos}
theorem binT (ha : PE X a ta) (hb : PE X b tb) {pins : List (Addr × Obj)} {s : Shared} {σ : St} {H : Hp} {R : V → V → Hp → Prop} (I : Inv X pins σ H s)
    (h : ta σ H fun x H1 => tb σ H1 fun y H2 => R x y H2) {Q : Value → Shared → Prop} {f : Value → Value → Sem Value}
    (hf : ∀ v u s2 x y H2, Inv X pins σ H2 s2 → RelV x v → RelV y u → R x y H2 → wpAny (model X.prog X.w) X.A (f v u) Q X.xe s2) :
    wpAny (model X.prog X.w) X.A (eval a X.env) (fun v s₁ => wpAny (model X.prog X.w) X.A (eval b X.env) (fun u s₂ => wpAny (model X.prog X.w) X.A (f v u) Q X.xe s₂) X.xe s₁) X.xe s := by
  refine thn (ha pins s σ H _ I h) fun v s1 hh => ?_
  obtain ⟨x, H1, I1, r1, q1⟩ := hh
  refine thn (hb pins s1 σ H1 _ I1 q1) fun u s2 hh => ?_
  obtain ⟨y, H2, I2, r2, q2⟩ := hh
  exact hf v u s2 x y H2 I2 r1 r2 q2
theorem pe_op {op : Operator} {r : R2} (ho : OpR X (binaryOp op) r) (ha : PE X a ta) (hb : PE X b tb) : PE X (.BinOp a op b pos) (tOp r ta tb) := by
  intro pins s σ H Q I h
  exact wpAny_BinOp (binT ha hb I h fun v u s2 x y H2 I2 rx ry q => ho pins s2 σ H2 x y v u Q I2 rx ry q)
theorem pe_un {op : UnaryOp} {r : V → Hp → VK → Prop} (ho : UnR X (unaryOp op) r) (ha : PE X a ta) : PE X (.UnaryOp op a pos) (tUn r ta) := by
  intro pins s σ H Q I h
  exact UnaryOp_ (thn (ha pins s σ H _ I h) fun v s1 ⟨x, H1, I1, r1, q1⟩ => ho pins s1 σ H1 x v Q I1 r1 q1)
theorem opI {f : Value → Value → Sem Value} {C : Int → Int → Prop} {g : Int → Int → Int}
    (rule : ∀ (i j : Int) (t u : Tok) (s : Shared) (Q : Value → Shared → Prop) (E : Value → Shared → Prop), C i j → Q (.int (g i j) s.toks) { s with toks := s.toks + 1 } → wpAny (model X.prog X.w) X.A (f (.int i t) (.int j u)) Q E s) :
    OpR X f (rI C fun i j => .int (g i j)) := by
  intro pins s σ H x y v u Q I rx ry h
  obtain ⟨i, j, rfl, rfl, hc, q⟩ := h
  obtain ⟨t, rfl⟩ := rx
  obtain ⟨t', rfl⟩ := ry
  exact rule i j t t' s _ _ hc ⟨.int (g i j), H, I.tok _, ⟨_, rfl⟩, q⟩
theorem opI0 {f : Value → Value → Sem Value} {g : Int → Int → Int}
    (rule : ∀ (i j : Int) (t u : Tok) (s : Shared) (Q : Value → Shared → Prop) (E : Value → Shared → Prop), Q (.int (g i j) s.toks) { s with toks := s.toks + 1 } → wpAny (model X.prog X.w) X.A (f (.int i t) (.int j u)) Q E s) :
    OpR X f (rI0 fun i j => .int (g i j)) := by
  intro pins s σ H x y v u Q I rx ry h
  obtain ⟨i, j, rfl, rfl, q⟩ := h
  obtain ⟨t, rfl⟩ := rx
  obtain ⟨t', rfl⟩ := ry
  exact rule i j t t' s _ _ ⟨.int (g i j), H, I.tok _, ⟨_, rfl⟩, q⟩
theorem opB0 {f : Value → Value → Sem Value} {g : Int → Int → Bool}
    (rule : ∀ (i j : Int) (t u : Tok) (s : Shared) (Q : Value → Shared → Prop) (E : Value → Shared → Prop), Q (.bool (g i j)) s → wpAny (model X.prog X.w) X.A (f (.int i t) (.int j u)) Q E s) :
    OpR X f (rI0 fun i j => .bl (g i j)) := by
  intro pins s σ H x y v u Q I rx ry h
  obtain ⟨i, j, rfl, rfl, q⟩ := h
  obtain ⟨t, rfl⟩ := rx
  obtain ⟨t', rfl⟩ := ry
  exact rule i j t t' s _ _ ⟨.bl (g i j), H, I, rfl, q⟩
noncomputable def CPow (i j : Int) : Prop := 0 ≤ j ∧ j ≤ 1000000 ∧ i.natAbs < 2 ^ 64
noncomputable def CMul (i j : Int) : Prop := (-(2 ^ 64) < i ∧ i < 2 ^ 64) ∨ (-(2 ^ 64) < j ∧ j < 2 ^ 64)
theorem CMul.ok {i j : Int} (h : CMul i j) : IntMulOk i j := by
  rcases h with ⟨h1, h2⟩ | ⟨h1, h2⟩
  · exact .of_left (intBits_le_64 h1 h2)
  · exact .of_right (intBits_le_64 h1 h2)
theorem op_add : OpR X (binaryOp .Add) (rI0 fun i j => .int (i + j)) := opI0 fun _ _ _ _ _ _ _ q => add_int q
theorem op_sub : OpR X (binaryOp .Sub) (rI0 fun i j => .int (i - j)) := opI0 fun _ _ _ _ _ _ _ q => sub_int q
theorem op_mul : OpR X (binaryOp .Mult) (rI CMul fun i j => .int (i * j)) := opI fun _ _ _ _ _ _ _ hc q => mul_int q hc.ok
theorem op_mod : OpR X (binaryOp .Mod) (rI (fun _ j => 0 < j) fun i j => .int (i % j)) := opI fun i j _ _ _ _ _ hc q => by
  have h1 : (0 : Int) < j := hc
  exact mod_int' (by lia) (by rw [Int.fmod_eq_emod_of_nonneg i (by lia)]; exact q)
theorem op_pow : OpR X (binaryOp .Pow) (rI CPow fun i j => .int (i ^ j.toNat)) := opI fun _ _ _ _ _ _ _ hc q => pow_int_small hc.1 hc.2.1 hc.2.2 q
theorem unI {f : Value → Sem Value} {g : Int → Int}
    (rule : ∀ (i : Int) (t : Tok) (s : Shared) (Q : Value → Shared → Prop) (E : Value → Shared → Prop), Q (.int (g i) s.toks) { s with toks := s.toks + 1 } → wpAny (model X.prog X.w) X.A (f (.int i t)) Q E s) :
    UnR X f (rU fun i => .int (g i)) := by
  intro pins s σ H x v Q I rx h
  obtain ⟨i, rfl, q⟩ := h
  obtain ⟨t, rfl⟩ := rx
  exact rule i t s _ _ ⟨.int (g i), H, I.tok _, ⟨_, rfl⟩, q⟩
theorem un_neg : UnR X (unaryOp .USub) (rU fun i => .int (-i)) := unI fun _ _ _ _ _ q => neg_int q
end
noncomputable def scal : V → V → Bool
  | .non, .non => true | .non, .int _ => true | .int _, .non => true | .non, .bl _ => true | .bl _, .non => true | .non, .str _ => true | .str _, .non => true
  | .int _, .int _ => true | .bl _, .bl _ => true | .str _, .str _ => true | .byt _, .byt _ => true
  | .int _, .str _ => true | .str _, .int _ => true | .bl _, .str _ => true | .str _, .bl _ => true
  | _, _ => false
noncomputable def rEq : R2 := fun x y H Q => scal x y = true ∧ Q (.bl (decide (x = y))) H
noncomputable def rNe : R2 := fun x y H Q => scal x y = true ∧ Q (.bl (!decide (x = y))) H
theorem dec_int {i j : Int} : decide (V.int i = V.int j) = (i == j) := by
  rw [Bool.eq_iff_iff]
  simp
theorem dec_bl {i j : Bool} : decide (V.bl i = V.bl j) = (i == j) := by
  rw [Bool.eq_iff_iff]
  simp
theorem dec_str {i j : Str} : decide (V.str i = V.str j) = (i == j) := by
  rw [Bool.eq_iff_iff]
  simp
theorem dec_byt {i j : Array UInt8} : decide (V.byt i = V.byt j) = (i.toList == j.toList) := by
  rw [Bool.eq_iff_iff]
  cases i
  cases j
  simp
section
variable {X : Cx} {a b c : Expr} {ta tb tc : TE} {pos : Pos}
theorem fin_bl {pins : List (Addr × Obj)} {σ : St} {H : Hp} {s : Shared} {Q : VK} {k k' : Bool} (I : Inv X pins σ H s) (q : Q (.bl k) H) (e : k = k') : EP X pins σ Q (.bool k') s := by
  subst e
  exact ⟨.bl k, H, I, rfl, q⟩
theorem op_eq : OpR X (compareOp .Eq) rEq := by
  intro pins s σ H x y v u Q I rx ry h
  obtain ⟨hs, q⟩ := h
  cases x with
  | non =>
    cases rx
    cases y with
    | non => cases ry; exact PySem.EqNone.eq_none_none (fin_bl I q (by simp))
    | bl j => cases ry; exact PySem.EqNone.eq_none_bool (fin_bl I q (by simp))
    | int j => obtain ⟨t', rfl⟩ := ry; exact PySem.EqNone.eq_none_int (fin_bl I q (by simp))
    | str j => obtain ⟨t', rfl⟩ := ry; exact PySem.EqNone.eq_none_str (fin_bl I q (by simp))
    | _ => exact absurd (show false = true from hs) Bool.false_ne_true
  | bl i =>
    cases rx
    cases y with
    | non => cases ry; exact PySem.EqNone.eq_bool_none (fin_bl I q (by simp))
    | bl j => cases ry; exact eq_bool (fin_bl I q dec_bl)
    | str j => obtain ⟨t', rfl⟩ := ry; exact PySem.EqMixed.eq_bool_str (fin_bl I q (by simp))
    | _ => exact absurd (show false = true from hs) Bool.false_ne_true
  | int i =>
    obtain ⟨t, rfl⟩ := rx
    cases y with
    | non => cases ry; exact PySem.EqNone.eq_int_none (fin_bl I q (by simp))
    | int j => obtain ⟨t', rfl⟩ := ry; exact eq_int (fin_bl I q dec_int)
    | str j => obtain ⟨t', rfl⟩ := ry; exact PySem.EqMixed.eq_int_str (fin_bl I q (by simp))
    | _ => exact absurd (show false = true from hs) Bool.false_ne_true
  | str i =>
    obtain ⟨t, rfl⟩ := rx
    cases y with
    | non => cases ry; exact PySem.EqNone.eq_str_none (fin_bl I q (by simp))
    | bl j => cases ry; exact PySem.EqMixed.eq_str_bool (fin_bl I q (by simp))
    | int j => obtain ⟨t', rfl⟩ := ry; exact PySem.EqMixed.eq_str_int (fin_bl I q (by simp))
    | str j => obtain ⟨t', rfl⟩ := ry; exact eq_str (fin_bl I q dec_str)
    | _ => exact absurd (show false = true from hs) Bool.false_ne_true
  | byt i =>
    obtain ⟨t, rfl⟩ := rx
    cases y with
    | byt j => obtain ⟨t', rfl⟩ := ry; exact PySem.W.eq_bytes (fin_bl I q dec_byt)
    | _ => exact absurd (show false = true from hs) Bool.false_ne_true
  | _ => cases y <;> exact absurd (show false = true from hs) Bool.false_ne_true
theorem op_ne : OpR X (compareOp .NotEq) rNe := by
  intro pins s σ H x y v u Q I rx ry h
  obtain ⟨hs, q⟩ := h
  cases x with
  | non =>
    cases rx
    cases y with
    | non => cases ry; exact PySem.EqNone.ne_none_none (fin_bl I q (by simp))
    | bl j => cases ry; exact PySem.EqNone.ne_none_bool (fin_bl I q (by simp))
    | int j => obtain ⟨t', rfl⟩ := ry; exact PySem.EqNone.ne_none_int (fin_bl I q (by simp))
    | str j => obtain ⟨t', rfl⟩ := ry; exact PySem.EqNone.ne_none_str (fin_bl I q (by simp))
    | _ => exact absurd (show false = true from hs) Bool.false_ne_true
  | bl i =>
    cases rx
    cases y with
    | non => cases ry; exact PySem.EqNone.ne_bool_none (fin_bl I q (by simp))
    | bl j => cases ry; exact ne_bool (fin_bl I q (congrArg not dec_bl))
    | str j => obtain ⟨t', rfl⟩ := ry; exact PySem.EqMixed.ne_bool_str (fin_bl I q (by simp))
    | _ => exact absurd (show false = true from hs) Bool.false_ne_true
  | int i =>
    obtain ⟨t, rfl⟩ := rx
    cases y with
    | non => cases ry; exact PySem.EqNone.ne_int_none (fin_bl I q (by simp))
    | int j => obtain ⟨t', rfl⟩ := ry; exact ne_int (fin_bl I q (congrArg not dec_int))
    | str j => obtain ⟨t', rfl⟩ := ry; exact PySem.EqMixed.ne_int_str (fin_bl I q (by simp))
    | _ => exact absurd (show false = true from hs) Bool.false_ne_true
  | str i =>
    obtain ⟨t, rfl⟩ := rx
    cases y with
    | non => cases ry; exact PySem.EqNone.ne_str_none (fin_bl I q (by simp))
    | bl j => cases ry; exact PySem.EqMixed.ne_str_bool (fin_bl I q (by simp))
    | int j => obtain ⟨t', rfl⟩ := ry; exact PySem.EqMixed.ne_str_int (fin_bl I q (by simp))
    | str j => obtain ⟨t', rfl⟩ := ry; exact ne_str (fin_bl I q (congrArg not dec_str))
    | _ => exact absurd (show false = true from hs) Bool.false_ne_true
  | byt i =>
    obtain ⟨t, rfl⟩ := rx
    cases y with
    | byt j => obtain ⟨t', rfl⟩ := ry; exact PySem.W.ne_bytes (fin_bl I q (congrArg not dec_byt))
    | _ => exact absurd (show false = true from hs) Bool.false_ne_true
  | _ => cases y <;> exact absurd (show false = true from hs) Bool.false_ne_true
theorem op_lt : OpR X (compareOp .Lt) (rI0 fun i j => .bl (decide (i < j))) := opB0 fun _ _ _ _ _ _ _ q => lt_int q
theorem op_le : OpR X (compareOp .LtE) (rI0 fun i j => .bl (decide (i ≤ j))) := opB0 fun _ _ _ _ _ _ _ q => le_int q
theorem op_gt : OpR X (compareOp .Gt) (rI0 fun i j => .bl (decide (j < i))) := opB0 fun _ _ _ _ _ _ _ q => gt_int q
theorem op_ge : OpR X (compareOp .GtE) (rI0 fun i j => .bl (decide (j ≤ i))) := opB0 fun _ _ _ _ _ _ _ q => ge_int q
theorem op_in_str : OpR X (compareOp .In) (fun x y H Q => ∃ i j, x = .str i ∧ y = .str j ∧ Q (.bl (!(Builtin.Str.occurrences j i 0 j.length 1).isEmpty)) H) := by
  intro pins s σ H x y v u Q I rx ry h
  obtain ⟨i, j, rfl, rfl, q⟩ := h
  obtain ⟨t, rfl⟩ := rx
  obtain ⟨t', rfl⟩ := ry
  exact in_str (fin_bl I q rfl)
theorem op_isN : OpR X (compareOp .Is) (fun x y H Q => y = .non ∧ Q (.bl (decide (x = .non))) H) := by
  intro pins s σ H x y v u Q I rx ry h
  obtain ⟨rfl, q⟩ := h
  cases ry
  refine is_none_gen (fin_bl I q ?_)
  cases x <;> first
    | (cases rx; rfl)
    | (obtain ⟨t, rfl⟩ := rx; rfl)
theorem op_notN : OpR X (compareOp .IsNot) (fun x y H Q => y = .non ∧ Q (.bl (!decide (x = .non))) H) := by
  intro pins s σ H x y v u Q I rx ry h
  obtain ⟨rfl, q⟩ := h
  cases ry
  refine isnot_none_gen (fin_bl I q ?_)
  cases x <;> first
    | (cases rx; rfl)
    | (obtain ⟨t, rfl⟩ := rx; rfl)
theorem nomark (b : Expr) {op : CmpOp} (h : op ≠ .In := by decide) (h2 : op ≠ .NotIn := by decide) : behindInMarks op b = false := by
  have e1 : (op == CmpOp.In) = false := by cases op <;> first | rfl | exact absurd rfl h
  have e2 : (op == CmpOp.NotIn) = false := by cases op <;> first | rfl | exact absurd rfl h2
  cases b <;> simp [behindInMarks, e1, e2]
theorem pe_cmpR {op : CmpOp} {r : R2} (ho : OpR X (compareOp op) r) (ha : PE X a ta) (hb : PE X b tb) (hm : behindInMarks op b = false) : PE X (.Compare a [op] [b] pos) (tOp r ta tb) := by
  intro pins s σ H Q I h
  exact wpAny_Compare1 (binT ha hb I h fun v u s2 x y H2 I2 rx ry q => ho pins s2 σ H2 x y v u Q I2 rx ry q) hm
noncomputable def tTest (t : TE) : TT := fun σ H Q => t σ H fun x H' => ∃ k, x = .bl k ∧ Q k H'
theorem pt_cmpR {op : CmpOp} {r : R2} (ho : OpR X (compareOp op) r) (ha : PE X a ta) (hb : PE X b tb) (hm : behindInMarks op b = false) : PT X (.Compare a [op] [b] pos) (tTest (tOp r ta tb)) := by
  intro pins s σ H Q I h
  refine wpAny_isTrue_Compare1 (thn (ha pins s σ H _ I h) fun v s1 ⟨x, H1, I1, r1, q1⟩ => thn (hb pins s1 σ H1 _ I1 q1) fun u s2 ⟨y, H2, I2, r2, q2⟩ =>
    thn (ho pins s2 σ H2 x y v u _ I2 r1 r2 q2) fun c s3 ⟨z, H3, I3, r3, k, e, q3⟩ => ?_) hm
  subst e
  cases r3
  exact wpAny_truthy_bool ⟨H3, I3, q3⟩
noncomputable def tChain (r r' : R2) (ta tb tc : TE) : TE := fun σ H Q => ta σ H fun x H1 => tb σ H1 fun y H2 => r x y H2 fun z H3 => ∃ k, z = .bl k ∧
  (if k = true then tc σ H3 fun w' H4 => r' y w' H4 Q else Q (.bl false) H3)
theorem pe_chain {op op' : CmpOp} {r r' : R2} (ho : OpR X (compareOp op) r) (ho' : OpR X (compareOp op') r') (ha : PE X a ta) (hb : PE X b tb) (hc : PE X c tc)
    (hm : lastMarks [op, op'] [b, c] = false := by with_unfolding_all rfl) : PE X (.Compare a [op, op'] [b, c] pos) (tChain r r' ta tb tc) := by
  intro pins s σ H Q I h
  refine Compare_chain (thn (ha pins s σ H _ I h) fun v s1 ⟨x, H1, I1, r1, q1⟩ => chain_link (thn (hb pins s1 σ H1 _ I1 q1) fun u s2 ⟨y, H2, I2, r2, q2⟩ =>
    thn (ho pins s2 σ H2 x y v u _ I2 r1 r2 q2) fun d s3 ⟨z, H3, I3, r3, k, e, q3⟩ => ?_)) hm
  subst e
  cases r3
  refine wpAny_truthy_bool ?_
  cases k with
  | false => exact ite_ff ⟨.bl false, H3, I3, rfl, q3⟩
  | true => exact ite_tt (chain_last (thn (hc pins s3 σ H3 _ I3 q3) fun w' s4 ⟨z', H4, I4, r4, q4⟩ => ho' pins s4 σ H4 y z' u w' Q I4 r2 r4 q4))
noncomputable def TruV (K : PySem.W.Frag) (x : V) (H : Hp) (k : Bool) : Prop :=
  match x with
  | .non => k = false
  | .bl b => k = b
  | .int i => k = (i != 0)
  | .str y => y.length ≤ sizeLine ∧ k = ((y.length : Int) != 0)
  | .byt y => y.size ≤ sizeLine ∧ k = ((y.size : Int) != 0)
  | .ref p => (∃ xs, SqL K H p xs ∧ k = !xs.isEmpty) ∨ (∃ xs, SqT K H p xs ∧ k = !xs.isEmpty) ∨ ∃ kvs, H p = some (.dK kvs) ∧ k = !kvs.isEmpty
  | _ => False
theorem isEmpty_kv {κ : Type} {kvs : List (κ × V)} {vs : List (κ × Value)} (r : KV kvs vs) : (!vs.isEmpty) = !kvs.isEmpty := by
  cases r <;> rfl
theorem isEmpty_of {xs : List V} {its : List Value} (r : Vals xs its) : (!its.toArray.isEmpty) = !xs.isEmpty := by
  cases r <;> simp
theorem line63 : (sizeLine : Nat) < 2 ^ 63 := by rw [sizeLine_eq]; decide
theorem tru_ok : TruR X (fun x H Q => ∃ k, TruV X.K x H k ∧ Q k H) := by
  intro pins s σ H x v Q I rx h
  obtain ⟨k, e, q⟩ := h
  have hl := line63
  have hs : sizeLine = 16777216 := sizeLine_eq
  cases x with
  | non =>
    cases rx
    have e' : k = false := e
    subst e'
    exact truthy_none ⟨H, I, q⟩
  | bl b =>
    cases rx
    have e' : k = b := e
    subst e'
    exact wpAny_truthy_bool ⟨H, I, q⟩
  | int i =>
    obtain ⟨t, rfl⟩ := rx
    have e' : k = (i != 0) := e
    subst e'
    exact PySem.P.truthy_int ⟨H, I, q⟩
  | str y =>
    obtain ⟨t, rfl⟩ := rx
    obtain ⟨hy, e'⟩ : y.length ≤ sizeLine ∧ k = ((y.length : Int) != 0) := e
    subst e'
    exact PySem.P.truthy_str (by lia) ⟨H, I.tok _, q⟩
  | byt y =>
    obtain ⟨t, rfl⟩ := rx
    obtain ⟨hy, e'⟩ : y.size ≤ sizeLine ∧ k = ((y.size : Int) != 0) := e
    subst e'
    exact PySem.W.truthy_bytes (by lia) ⟨H, I.tok _, q⟩
  | ref p =>
    cases rx
    have e' : (∃ xs, SqL X.K H p xs ∧ k = !xs.isEmpty) ∨ (∃ xs, SqT X.K H p xs ∧ k = !xs.isEmpty) ∨ ∃ kvs, H p = some (.dK kvs) ∧ k = !kvs.isEmpty := e
    rcases e' with ⟨xs, hx, e'⟩ | ⟨xs, hx, e'⟩ | ⟨kvs, hx, e'⟩
    · subst e'
      obtain ⟨its, r, pl, hz⟩ := I.list hx
      have hlen := r.length
      exact wpAny_truthy_list pl.isList (by simp only [List.size_toArray]; lia) ⟨H, I.tok _, by rw [isEmpty_of r]; exact q⟩
    · subst e'
      obtain ⟨its, r, pl, hz⟩ := I.tuple hx
      have hlen := r.length
      exact truthy_tuple pl (by simp only [List.size_toArray]; lia) ⟨H, I.tok _, by rw [isEmpty_of r]; exact q⟩
    · subst e'
      obtain ⟨hz, hS, vs, r, m⟩ : kvs.length ≤ sizeLine ∧ (p == sysModules) = false ∧ ∃ vs, KV kvs vs ∧ s.heap.DictOf (mixKind X.prog X.w) p vs := I.hok p _ hx
      have hlen : kvs.length = vs.length := Paired.length r
      exact wpAny_truthy_dict hS m (by lia) ⟨H, I.tok _, by rw [isEmpty_kv r]; exact q⟩
  | _ => exact (show False from e).elim
theorem pt_truth (ha : PE X a ta) (he : ∀ whole, isTrue a X.env whole = (do let v ← whole; standAt a.pos; holding [v] (truthy v))) :
    PT X a (fun σ H Q => ta σ H fun x H' => ∃ k, TruV X.K x H' k ∧ Q k H') := by
  intro pins s σ H Q I h
  exact isTrue_plain (thn (ha pins s σ H _ I h) fun v s1 ⟨x, H1, I1, r1, q1⟩ => tru_ok pins s1 σ H1 x v Q I1 r1 q1) (he _)
theorem op_add_str : OpR X (binaryOp .Add) (fun x y H Q => ∃ i j, x = .str i ∧ y = .str j ∧ i.length + j.length ≤ sizeLine ∧ Q (.str (i ++ j)) H) := by
  intro pins s σ H x y v u Q I rx ry h
  obtain ⟨i, j, rfl, rfl, hz, q⟩ := h
  obtain ⟨t, rfl⟩ := rx
  obtain ⟨t', rfl⟩ := ry
  exact add_str (fun t' tk => ⟨.str (i ++ j), H, I.tok _, ⟨_, rfl⟩, q⟩) hz
theorem vals1 {x : V} {us : List Value} (r : Vals [x] us) : ∃ u, us = [u] ∧ RelV x u := by
  cases r with
  | cons r1 r2 => cases r2; exact ⟨_, rfl, r1⟩
theorem vals2 {x y : V} {us : List Value} (r : Vals [x, y] us) : ∃ u w', us = [u, w'] ∧ RelV x u ∧ RelV y w' := by
  cases r with
  | cons r1 r2 =>
    cases r2 with
    | cons r3 r4 => cases r4; exact ⟨_, _, rfl, r1, r3⟩
theorem call_max2 (hc : X.calm = true) : CallR X (.builtin "max") (fun xs H Q => ∃ i j, xs = [.int i, .int j] ∧ Q (.int (if j > i then j else i)) H) := by
  intro pins s σ H xs us Q I r h
  obtain ⟨i, j, rfl, q⟩ := h
  obtain ⟨u, w', rfl, ⟨t, rfl⟩, ⟨t', rfl⟩⟩ := vals2 r
  refine max_two_ints (I.ok.hd hc) fun h' tk k => ⟨_, H, I.kept k, ?_, q⟩
  by_cases hj : j > i
  · rw [if_pos hj, if_pos hj]; exact ⟨_, rfl⟩
  · rw [if_neg hj, if_neg hj]; exact ⟨_, rfl⟩
theorem call_min2 (hc : X.calm = true) : CallR X (.builtin "min") (fun xs H Q => ∃ i j, xs = [.int i, .int j] ∧ Q (.int (if j < i then j else i)) H) := by
  intro pins s σ H xs us Q I r h
  obtain ⟨i, j, rfl, q⟩ := h
  obtain ⟨u, w', rfl, ⟨t, rfl⟩, ⟨t', rfl⟩⟩ := vals2 r
  refine min_two_ints (I.ok.hd hc) fun h' tk k => ⟨_, H, I.kept k, ?_, q⟩
  by_cases hj : j < i
  · rw [if_pos hj, if_pos hj]; exact ⟨_, rfl⟩
  · rw [if_neg hj, if_neg hj]; exact ⟨_, rfl⟩
theorem call_int1 : CallR X (.type "int") (fun xs H Q => (∃ i, xs = [.int i] ∧ Q (.int i) H) ∨ ∃ k, xs = [.bl k] ∧ Q (.int (if k then 1 else 0)) H) := by
  intro pins s σ H xs us Q I r h
  rcases h with ⟨i, rfl, q⟩ | ⟨k, rfl, q⟩
  · obtain ⟨u, rfl, t, rfl⟩ := vals1 r
    exact call_int_int ⟨.int i, H, I, ⟨_, rfl⟩, q⟩
  · obtain ⟨u, rfl, r1⟩ := vals1 r
    cases r1
    exact call_int_bool ⟨.int (if k then 1 else 0), H, I.tok _, ⟨_, rfl⟩, q⟩
theorem call_str_int : CallR X (.type "str") (fun xs H Q => ∃ i, xs = [.int i] ∧ i.natAbs.log2 < 1920 ∧ Q (.str (toString i)) H) := by
  intro pins s σ H xs us Q I r h
  obtain ⟨i, rfl, hz, q⟩ := h
  obtain ⟨u, rfl, t, rfl⟩ := vals1 r
  exact PySem.P.str_of_int hz ⟨.str _, H, I.tok _, ⟨_, rfl⟩, q⟩
end
end L2
namespace L2
open PySem PySem.Spec PyProof.Rows
structure ObjM (h : Heap) (x dx C : Addr) (mA : Str → Option Value) : Prop where
  obj : h.get? x = some (PySem.W.instObj C dx)
  ns : h.Ns1 dx mA
  ne : dx ≠ x
theorem lookIn_ns {h : Heap} {dx : Addr} {mA : Str → Option Value} (n : h.Ns1 dx mA) : ∃ od, h.get? dx = some od ∧ ∀ name, PySem.W.lookIn name od = some (mA name) := by
  obtain ⟨o, es, ep, ho, hd, hk, _, hm⟩ := n
  refine ⟨o, ho, fun name => ?_⟩
  have e := hm name
  unfold nsFind findBy at e
  rw [← Array.find?_toList] at e
  unfold PySem.W.lookIn
  rw [hd]
  dsimp only
  split
  · rename_i y q
    rw [q] at e
    exact congrArg some e
  · rename_i q
    rw [q] at e
    have a : es.toList.any (·.refKey) = false := by
      rw [List.any_eq_false]
      intro y hy
      obtain ⟨z, t, hkey⟩ := hk y (Array.mem_toList_iff.mp hy)
      simp [DictEntry.refKey, hkey]
    have a' : ¬ es.toList.any (·.refKey) = true := by rw [a]; exact Bool.false_ne_true
    rw [if_neg a']
    exact congrArg some e
theorem ObjM.look {h : Heap} {x dx C : Addr} {mA : Str → Option Value} (I : ObjM h x dx C mA) : ∃ od, PySem.W.InstAt h x (PySem.W.instObj C dx) C (some od) ∧ ∀ name, PySem.W.lookIn name od = some (mA name) :=
  let ⟨od, ho, hl⟩ := lookIn_ns I.ns
  ⟨od, ⟨I.obj, rfl, rfl, ho⟩, hl⟩
section
variable {prog : Program} {w : World} {A : Around} {E : Value → Shared → Prop} {s : Shared} {K : PySem.W.Frag} {x dx C f : Addr} {mA : Str → Option Value} {name : Str} {v : Value}
end
section
variable {P : Program} {w : World} {H H' : Hp} {h h' : Heap} {a C dx : Addr} {fs fs' : List (Str × V)}
theorem ins_get (hok : HOk P w H h) (e : H a = some (.ins C dx fs)) : ∃ mA, ObjM h a dx C mA ∧ (∀ f, RelO (fs.lookup f) (mA f)) ∧ PySem.Within mA (fs.map (·.1)) ∧ fs.length ≤ 1000 ∧ H dx = some (.own a) := by
  obtain ⟨d, z, ne, ob, mA, n, r, q⟩ := (show ObjOk P w H h a (.ins C dx fs) from hok a _ e)
  exact ⟨mA, ⟨ob, n, ne⟩, r, q, z, d⟩
end
structure Cls (K : PySem.W.Frag) (C : Addr) : Prop where
  pg : PySem.W.plainGet K C Str.empty = true
  hd : PySem.W.hasDictIn K C = true
  po : PySem.W.plainOver K C = true
  sa : PySem.W.findIn K (.ref C) "__setattr__" = some (some (.builtin "object.__setattr__"))
theorem Cls.get {K : PySem.W.Frag} {C : Addr} (c : Cls K C) (f : Str) : PySem.W.plainGet K C f = true := c.pg
section
variable {X : Cx} {pins : List (Addr × Obj)} {σ : St} {H : Hp} {s : Shared} {a C dx : Addr} {fs : List (Str × V)} {f : Str} {v : V} {A : Around} {E : Value → Shared → Prop}
end
section
variable {X : Cx} {o e value : Expr} {f : Str} {pos pos' tpos : Pos} {ta tv : TE}
noncomputable def rAdd : V → V → Hp → VK → Prop := fun x y H Q => ∃ i j, x = .int i ∧ y = .int j ∧ Q (.int (i + j)) H
noncomputable def rSub : V → V → Hp → VK → Prop := fun x y H Q => ∃ i j, x = .int i ∧ y = .int j ∧ Q (.int (i - j)) H
end
section
variable {X : Cx} {pins : List (Addr × Obj)} {σ : St} {H : Hp} {s : Shared} {A : Around} {E : Value → Shared → Prop} {Q : Value → Shared → Prop} {c : Value} {b : Bool}
inductive TyOf (K : PySem.W.Frag) (H : Hp) : V → Value → Prop where
  | non : TyOf K H .non (.type "NoneType")
  | bl (x : Bool) : TyOf K H (.bl x) (.type "bool")
  | int (i : Int) : TyOf K H (.int i) (.type "int")
  | str (x : Str) : TyOf K H (.str x) (.type "str")
  | flt (x : UInt64) : TyOf K H (.flt x) (.type "float")
  | lst {a : Addr} {xs : List V} (e : H a = some (.lst xs)) : TyOf K H (.ref a) (.type "list")
  | frz {a : Addr} {o : Obj} {xs : List V} (e : H a = some (.frz o (.lst xs))) : TyOf K H (.ref a) (.type "list")
  | tup {a : Addr} {xs : List V} (e : H a = some (.tup xs)) : TyOf K H (.ref a) (.type "tuple")
  | dK {a : Addr} {kvs : List (Key × V)} (e : H a = some (.dK kvs)) : TyOf K H (.ref a) (.type "dict")
  | dT {a : Addr} {kvs : List (List Key × V)} (e : H a = some (.dT kvs)) : TyOf K H (.ref a) (.type "dict")
  | ins {a C dx : Addr} {fs : List (Str × V)} (e : H a = some (.ins C dx fs)) (cl : Cls K C) (ha : PySem.W.findIn K (.ref C) "__class__" = some (some (.builtin "object.__class__")))
      (hn : PySem.W.specialIn K (.builtin "object.__class__") "__get__" = some (some (.builtin "getset_descriptor.__get__"))) (htk : PySem.W.takesIn K (.builtin "object.__class__") = some true)
      (hm : PySem.W.mroIn K C (.type "object") = some true) : TyOf K H (.ref a) (.ref C)
theorem isinst_ok {x : V} {u t : Value} (I : Inv X pins σ H s) (rx : RelV x u) (ty : TyOf X.K H x t) (e : PySem.W.kitOne X.K t c = some b) (h : ∀ tk, Q (.bool b) { s with toks := tk }) :
    wpAny (model X.prog X.w) A (call (.builtin "isinstance") [u, c]) Q E s := by
  cases ty with
  | non => cases (show u = Value.none from rx); exact PySem.W.kia_one PySem.W.kitx_none I.kIn True.intro e (fun z => nomatch z) h
  | bl y => cases (show u = Value.bool y from rx); exact PySem.W.kia_one PySem.W.kitx_bool I.kIn True.intro e (fun z => nomatch z) h
  | int i => obtain ⟨t, q⟩ := (show ∃ t, u = Value.int i t from rx); cases q; exact PySem.W.kia_one PySem.W.kitx_int I.kIn True.intro e (fun z => nomatch z) h
  | str y => obtain ⟨t, q⟩ := (show ∃ t, u = Value.str y t from rx); cases q; exact PySem.W.kia_one PySem.W.kitx_str I.kIn True.intro e (fun z => nomatch z) h
  | flt y => obtain ⟨t, q⟩ := (show ∃ t, u = Value.float y t from rx); cases q; exact PySem.W.kia_one PySem.W.kitx_float I.kIn True.intro e (fun z => nomatch z) h
  | @lst a xs ea =>
    cases (show u = Value.ref a from rx)
    obtain ⟨_, _, n, _, h1⟩ := (show ObjOk X.prog X.w H s.heap a (.lst xs) from I.hok a _ ea)
    exact PySem.W.kia_one PySem.W.kitx_list I.kIn ⟨_, h1, rfl⟩ e (fun z => nomatch z) h
  | @frz a ob xs ea =>
    cases (show u = Value.ref a from rx)
    obtain ⟨_, _, _, n, _, h1⟩ := (show ObjOk X.prog X.w H s.heap a (.frz ob (.lst xs)) from I.hok a _ ea)
    exact PySem.W.kia_one PySem.W.kitx_list I.kIn ⟨_, h1, rfl⟩ e (fun z => nomatch z) h
  | @tup a xs ea =>
    cases (show u = Value.ref a from rx)
    obtain ⟨_, _, _, p⟩ := (show ObjOk X.prog X.w H s.heap a (.tup xs) from I.hok a _ ea)
    obtain ⟨o, h1, h2, _⟩ := p
    exact PySem.W.kia_one PySem.W.kitx_tuple I.kIn ⟨o, h1, h2⟩ e (fun z => nomatch z) h
  | @dK a kvs ea =>
    cases (show u = Value.ref a from rx)
    obtain ⟨_, _, vs, _, p⟩ := (show ObjOk X.prog X.w H s.heap a (.dK kvs) from I.hok a _ ea)
    obtain ⟨o, es, ep, h1, h2, _⟩ := p
    exact PySem.W.kia_one PySem.W.kitx_dict I.kIn ⟨o, h1, h2.1⟩ e (fun z => nomatch z) h
  | @dT a kvs ea =>
    cases (show u = Value.ref a from rx)
    obtain ⟨_, _, xs, _, o, es, ep, h1, h2, _⟩ := (show ObjOk X.prog X.w H s.heap a (.dT kvs) from I.hok a _ ea)
    exact PySem.W.kia_one PySem.W.kitx_dict I.kIn ⟨o, h1, h2.1⟩ e (fun z => nomatch z) h
  | @ins a C dx fs ea cl ha hn htk hm =>
    cases (show u = Value.ref a from rx)
    obtain ⟨mA, O, _⟩ := ins_get I.hok ea
    obtain ⟨od, J, _⟩ := O.look
    exact PySem.W.kia_one (PySem.W.kitx_own (cl.get _) cl.hd ha hn htk hm) I.kIn J e (fun z => nomatch z) h
end
end L2
namespace L2
open PySem PySem.Spec PyProof.Rows
structure Room (k : Nat) (A : Around) : Prop where
  hd : A.handled = none
  dp : A.depth + 3 * k + 5 < recursionLimit
  un : A.units + 16 * k + 200 < cLine
  gd : A.guards = some [] := by rfl
theorem Room.mono {j k : Nat} {A : Around} (r : Room k A) (h : j ≤ k) : Room j A := ⟨r.hd, by have := r.dp; lia, by have := r.un; lia, r.gd⟩
theorem Room.deeper {k : Nat} {A : Around} (r : Room (k + 1) A) (env : Env) : Room k (A.deeper env) :=
  ⟨r.hd, by have := r.dp; show A.depth + 1 + 3 * k + 5 < _; lia, by have := r.un; show A.units + 3 + 16 * k + 200 < _; lia, r.gd⟩
theorem Room.depth {k : Nat} {A : Around} (r : Room k A) : A.depth < recursionLimit := by have := r.dp; lia
noncomputable def tNil : TA := fun _ H Q => Q [] H
noncomputable def tCons (ta : TE) (tr : TA) : TA := fun σ H Q => ta σ H fun x H1 => tr σ H1 fun xs H2 => Q (x :: xs) H2
section
variable {X : Cx} {e : Expr} {es : List Expr} {te : TE} {t : TA} {pos : Pos}
theorem pa_nil : PA X [] tNil := fun _ _ _ _ H Q I h => Calls.spliced_nil ⟨[], H, I, .nil, h⟩
theorem pa_cons (ha : PE X e te) (hr : PA X es t) (hs : starEach (e :: es) X.env = (false, eval e X.env) :: starEach es X.env := by rfl) : PA X (e :: es) (tCons te t) := by
  intro pos pins s σ H Q I h
  rw [hs]
  show wpAny _ _ (spliced ((false, eval e X.env) :: backTo pos (starEach es X.env))) _ _ s
  refine Calls.spliced_cons (thn (ha pins s σ H _ I h) fun u s1 hh => ?_)
  obtain ⟨x, H1, I1, r1, q1⟩ := hh
  exact thn (hr pos pins s1 σ H1 _ I1 q1) fun us s2 ⟨xs, H2, I2, r2, q2⟩ => ⟨x :: xs, H2, I2, .cons r1 r2, q2⟩
end
noncomputable abbrev Sp := List V → Hp → VK → XK → Prop
noncomputable abbrev CXT := List Env → Hp → Shared → XK → Value → Shared → Prop
structure Env0 (P : Program) (w : World) (K : PySem.W.Frag) (mg : Str → Option Value) (base : Heap) (A : Around) (outer : List Env) (s : Shared) (H : Hp) : Prop where
  frames : A.frames = some outer
  mod : Mod K mg base
  bs : ∀ b o, base.get? b = some o → s.heap.get? b = some o ∧ H b = none
  bsz : base.objs.size ≤ s.heap.objs.size
  funs : s.heap.FunFrames base outer
  frf : ∀ b ∈ frs outer, H b = none
  hok : HOk P w H s.heap
  bare : AllBare s.gens
noncomputable def CE (outer : List Env) (P : Program) (w : World) (H : Hp) (s : Shared) (Q : VK) (u : Value) (s' : Shared) : Prop :=
  ∃ v H', s'.os = s.os ∧ AllBare s'.gens ∧ Un (frs outer) [] H H' s.heap s'.heap ∧ HOk P w H' s'.heap ∧ RelV v u ∧ Q v H'
noncomputable def CR (CX : CXT) (outer : List Env) (P : Program) (w : World) (H : Hp) (s : Shared) (Q : VK) (E : XK) (r : Result) (s' : Shared) : Prop :=
  match r with
  | .ok (.ret u) => CE outer P w H s Q u s'
  | .ok _ => False
  | .error e => CX outer H s E e s'
structure FnOk (P : Program) (w : World) (K : PySem.W.Frag) (mg : Str → Option Value) (base : Heap) (CX : CXT) (k : Nat) (f : Addr) (fd : FuncData) (ps : List Str) (sp : Sp) : Prop where
  len : ∀ vs H Q E, sp vs H Q E → vs.length = ps.length
  run : ∀ (A : Around) (outer : List Env) (s : Shared) (H : Hp) (args : Args) (us : List Value) (vs : List V) (Q : VK) (E : XK), Room k A → Env0 P w K mg base A outer s H → BindsTo s fd args (ps.zip us) → Vals vs us → sp vs H Q E →
    codeAny (model P w) A (.call (.ref f) args) (CR CX outer P w H s Q E) s
theorem FnOk.mono {P : Program} {w : World} {K : PySem.W.Frag} {mg : Str → Option Value} {base : Heap} {CX : CXT} {j k : Nat} {f : Addr} {fd : FuncData} {ps : List Str} {sp : Sp} (F : FnOk P w K mg base CX j f fd ps sp) (h : j ≤ k) :
    FnOk P w K mg base CX k f fd ps sp := ⟨F.len, fun A outer s H args us vs Q E hr => F.run A outer s H args us vs Q E (hr.mono h)⟩
section
variable {X : Cx} {pins : List (Addr × Obj)} {σ : St} {H : Hp} {s s' : Shared}
theorem Inv.env0 (I : Inv X pins σ H s) : Env0 X.prog X.w X.K X.mg X.base X.A X.stack s H :=
  ⟨I.ok.frames, I.ok.mod, I.bs, Nat.le_trans I.ok.bsz I.sz, I.stack, I.stkFree, I.hok, I.bare⟩
theorem Inv.after {Q : VK} {u : Value} (I : Inv X pins σ H s) (h : CE X.stack X.prog X.w H s Q u s') : EP X pins σ Q u s' := by
  obtain ⟨v, H', os, bare, un, hok, r, q⟩ := h
  obtain ⟨hh, g, d, t, os'⟩ := s'
  obtain rfl : os' = s.os := os
  exact ⟨v, H', I.call (h' := hh) (g' := g) (d' := d) (t' := t) (ch := []) un hok bare (fun b z => absurd z (by simp)), r, q⟩
end
noncomputable def tCall (sp : Sp) (dvs : List V) (E : XK) (t : TA) : TE := fun σ H Q => t σ H fun vs H1 => sp (vs ++ dvs) H1 Q E
noncomputable def Binds (K : PySem.W.Frag) (fd : FuncData) (ps : List Str) (ds : List Value) : Prop :=
  ∀ (s : Shared) (us : List Value), K.In s.heap → (us ++ ds).length = ps.length → BindsTo s fd ⟨us, []⟩ (ps.zip (us ++ ds))
theorem Binds.all {K : PySem.W.Frag} {fd : FuncData} {ps : List Str} (h : ∀ us : List Value, us.length = ps.length → bindArgs fd ⟨us, []⟩ = pure (ps.zip us)) : Binds K fd ps [] := fun s us _ hl => by
  rw [List.append_nil] at hl ⊢
  exact .of_eq (h us hl)
noncomputable def Passes (CX : CXT) (X : Cx) (E : XK) : Prop := ∀ (pins : List (Addr × Obj)) (σ : St) (H : Hp) (s : Shared) (e : Value) (s' : Shared), Inv X pins σ H s → CX X.stack H s E e s' → X.xe e s'
section
variable {X : Cx} {CX : CXT} {k : Nat} {f C : Addr} {fd : FuncData} {ps : List Str} {sp : Sp} {dvs : List V} {ds : List Value} {E : XK} {x m : Str} {p pos apos : Pos} {e o : Expr} {es : List Expr} {ta : TE} {t : TA}
theorem run_fn {pins : List (Addr × Obj)} {σ : St} {H : Hp} {s : Shared} {Q : VK} {us : List Value} {vs : List V} (F : FnOk X.prog X.w X.K X.mg X.base CX k f fd ps sp) (hr : Room k X.A) (hb : Binds X.K fd ps ds) (hd : Vals dvs ds) (hx : Passes CX X E)
    (I : Inv X pins σ H s) (r : Vals vs us) (h : sp (vs ++ dvs) H Q E) : wpAny (model X.prog X.w) X.A (call (.ref f) us) (EP X pins σ Q) X.xe s := by
  have r2 : Vals (vs ++ dvs) (us ++ ds) := r.append hd
  have hl : (us ++ ds).length = ps.length := by rw [← r2.length]; exact F.len _ _ _ _ h
  refine wpAny_call (codeAny_mono (F.run X.A X.stack s H ⟨us, []⟩ (us ++ ds) (vs ++ dvs) Q E hr I.env0 (hb s us I.kIn hl) r2 h) fun r s' hq => ?_)
  cases r with
  | error e => exact hx pins σ H s e s' I hq
  | ok fl =>
    cases fl with
    | ret u => exact I.after hq
    | next => exact False.elim hq
    | brk => exact False.elim hq
    | cont => exact False.elim hq
theorem pe_call (F : FnOk X.prog X.w X.K X.mg X.base CX k f fd ps sp) (hr : Room k X.A) (hg : Gl X x) (hm : X.mg x = some (.ref f)) (hk : PySem.W.keepIn X.K (.ref f) = true) (hb : Binds X.K fd ps ds) (hd : Vals dvs ds) (hx : Passes CX X E)
    (ha : PA X (e :: es) t) (hdb : (x == ("__debug__" : Str)) = false := by decide) (he : starEach (e :: es) X.env = (false, eval e X.env) :: starEach es X.env := by rfl) (hpl : (backTo pos (starEach es X.env)).any (·.1) = false := by rfl) :
    PE X (.Call (.Name x p) (e :: es) [] pos) (tCall sp dvs E t) := by
  intro pins s σ H Q I h
  refine wpAny_Call_Name_kw (ld_glob I hg hm ?_ hdb)
  refine PySem.W.callWith_K (h₀ := X.base) I.ok.mod.kin hk (thn (ha pos pins s σ H _ I h) fun us s1 ⟨vs, H1, I1, r, q⟩ => ⟨I1.kIn, ?_⟩) he hpl
  exact run_fn F hr hb hd hx I1 r q
end
section
variable {X : Cx} {CX : CXT} {k : Nat} {f C : Addr} {fd : FuncData} {ps ks : List Str} {sp : Sp} {E : XK} {x m : Str} {p pos apos kpos : Pos} {e o : Expr} {es : List Expr} {kws : List Keyword} {te ta : TE} {t tk : TA} {nm : Option Str}
variable {g : List Value → List Value → List Value} {gV : List V → List V → List V}
end
structure FnScope (N P : List Str) (sc : Scope) : Prop where
  kind : sc.kind = .function
  co : sc.isCoroutine = false
  gen : sc.isGenerator = false
  nd : N.Nodup
  pre : N.take P.length = P
  par : ∀ x ∈ P, sc.names.lookup x = some .local ∨ sc.names.lookup x = some .cell
  nofree : ∀ y ∈ sc.names, y.2 ≠ .free
theorem bindL_out {kindOf : Str → Option NameKind} {x : Str} : ∀ {binds : List (Str × Value)} {m : Str → Option Value}, (∀ v, (x, v) ∉ binds) → bindL kindOf binds m x = m x
  | [], _, _ => rfl
  | (n, v) :: r, m, h => by
    unfold bindL
    rw [bindL_out fun w hw => h w (List.mem_cons_of_mem _ hw)]
    split
    · have : x ≠ n := by rintro rfl; exact h v List.mem_cons_self
      simp [this]
    · rfl
theorem bindC_out {kindOf : Str → Option NameKind} {x : Str} : ∀ {binds : List (Str × Value)} {m : Str → Option Value}, (∀ v, (x, v) ∉ binds) → bindC kindOf binds m x = m x
  | [], _, _ => rfl
  | (n, v) :: r, m, h => by
    unfold bindC
    rw [bindC_out fun w hw => h w (List.mem_cons_of_mem _ hw)]
    split
    · rfl
    · have : x ≠ n := by rintro rfl; exact h v List.mem_cons_self
      simp [this]
theorem bindL_get {kindOf : Str → Option NameKind} {x : Str} {v : Value} : ∀ {P : List Str} {vs : List Value} {i : Nat} {m : Str → Option Value}, P.Nodup → P[i]? = some x → vs[i]? = some v → kindOf x = some .local →
    bindL kindOf (P.zip vs) m x = some v
  | [], _, _, _, _, h, _, _ => by simp at h
  | _ :: _, [], _, _, _, _, h, _ => by simp at h
  | p :: P, w :: vs, 0, m, nd, h1, h2, hk => by
    simp at h1 h2; subst h1; subst h2
    show bindL kindOf ((p, w) :: P.zip vs) m p = _
    unfold bindL
    rw [bindL_out fun v hv => (List.nodup_cons.mp nd).1 (List.of_mem_zip hv).1, if_pos hk]
    simp
  | p :: P, w :: vs, i + 1, m, nd, h1, h2, hk => by
    show bindL kindOf ((p, w) :: P.zip vs) m x = _
    unfold bindL
    exact bindL_get (i := i) (List.nodup_cons.mp nd).2 (by simpa using h1) (by simpa using h2) hk
theorem bindC_get {kindOf : Str → Option NameKind} {x : Str} {v : Value} : ∀ {P : List Str} {vs : List Value} {i : Nat} {m : Str → Option Value}, P.Nodup → P[i]? = some x → vs[i]? = some v → kindOf x ≠ some .local →
    bindC kindOf (P.zip vs) m x = some v
  | [], _, _, _, _, h, _, _ => by simp at h
  | _ :: _, [], _, _, _, _, h, _ => by simp at h
  | p :: P, w :: vs, 0, m, nd, h1, h2, hk => by
    simp at h1 h2; subst h1; subst h2
    show bindC kindOf ((p, w) :: P.zip vs) m p = _
    unfold bindC
    rw [bindC_out fun v hv => (List.nodup_cons.mp nd).1 (List.of_mem_zip hv).1, if_neg hk]
    simp
  | p :: P, w :: vs, i + 1, m, nd, h1, h2, hk => by
    show bindC kindOf ((p, w) :: P.zip vs) m x = _
    unfold bindC
    exact bindC_get (i := i) (List.nodup_cons.mp nd).2 (by simpa using h1) (by simpa using h2) hk
noncomputable def start (N : List Str) (vs : List V) : St := vs.map some ++ List.replicate (N.length - vs.length) none
noncomputable def cxOf (CX : CXT) (P : Program) (w : World) (K : PySem.W.Frag) (mg : Str → Option Value) (base : Heap) (N : List Str) (qual : Str) (scope : Scope) (f : Addr) (cd : Value) (A : Around) (outer : List Env) (s : Shared) (H : Hp) (E : XK) : Cx where
  prog := P
  w := w
  K := K
  mg := mg
  base := base
  A := A.deeper (envOfC qual scope s.heap.objs.size f cd)
  N := N
  s₀ := s
  H₀ := H
  env := envOfC qual scope s.heap.objs.size f cd
  outer := outer
  stack := envOfC qual scope s.heap.objs.size f cd :: outer
  ex := []
  calm := true
  fn := fun _ => true
  pn := []
  xe := fun e s' => wpAny (model P w) (A.deeper (envOfC qual scope s.heap.objs.size f cd)) (leaving (envOfC qual scope s.heap.objs.size f cd) e) (fun _ s'' => CX outer H s E e s'') (fun e' s'' => CX outer H s E e' s'') s'
theorem cell_has {sc : Scope} {n : Nat} {x : Str} (h : sc.names.lookup x = some .cell) : ∃ c, (cellsFrom n sc.names []).lookup x = some c := by
  have q := PySem.W.cellsFrom_some sc.names n [] (.inl h)
  exact Option.isSome_iff_exists.mp q
theorem inv_start {CX : CXT} {P : Program} {w : World} {K : PySem.W.Frag} {mg : Str → Option Value} {base : Heap} {N ps : List Str} {qual : Str} {scope : Scope} {f : Addr} {cd : Value} {A : Around} {outer : List Env} {s s1 : Shared} {H : Hp} {E : XK} {us : List Value} {vs : List V}
    (S : FnScope N ps scope) (hd : A.handled = none) (e0 : Env0 P w K mg base A outer s H) (hl : vs.length = ps.length) (r : Vals vs us)
    (x : InCallC s s.heap.objs.size (bindL (envOfC qual scope s.heap.objs.size f cd).kindOf (ps.zip us) fun _ => none) (cellsFrom (s.heap.objs.size + 1) scope.names []) (bindC (envOfC qual scope s.heap.objs.size f cd).kindOf (ps.zip us) fun _ => none) s1) :
    Inv (cxOf CX P w K mg base N qual scope f cd A outer s H E) [] (start N vs) H s1 := by
  have hpl : ps.length ≤ N.length := by have := congrArg List.length S.pre; rw [List.length_take] at this; lia
  obtain ⟨h1, tk, rfl, hk⟩ := x.done
  have noA : ∀ b : Addr, b ∉ (cxOf CX P w K mg base N qual scope f cd A outer s H E).ex := fun b z => absurd (show b ∈ ([] : List Addr) from z) (by simp)
  refine ⟨⟨e0.mod, S.kind, rfl, rfl, Nat.le_refl _, fun y z c h1 h2 => ?_, fun y hy => ?_, fun y c _ h => ?_, fun _ => hd, Around.frames_deeper e0.frames, .inr ⟨rfl, rfl⟩, fun b z => absurd z (noA b), e0.bs, e0.bsz, fun b _ _ => noA b, fun b z => absurd z (noA b), e0.funs, e0.frf⟩,
    rfl, e0.bare, Un.kept hk, ⟨_, x.toInCall.ns, fun i y v h1 h2 h3 => ?_⟩, fun y c h => ⟨_, x.cell y c h⟩, e0.hok.fresh (Nat.le_refl _), fun y c h => ?_, fun p hp => absurd (show p ∈ ([] : List (Addr × Obj)) from hp) (by simp), e0.hok.kept hk, ?_⟩
  · exact name_of_addr x.apart (PySem.mem_of_lookup h1) (PySem.mem_of_lookup h2)
  · have hy : scope.names.lookup y = some .cell ∨ scope.names.lookup y = some .free := hy
    rcases hy with hy | hy
    · exact cell_has hy
    · exact absurd rfl (S.nofree _ (PySem.mem_of_lookup hy))
  · exact Nat.le_of_lt (x.above y c (PySem.mem_of_lookup h))
  · have hi : i < vs.length := by
      unfold start at h2
      by_cases hi : i < vs.length
      · exact hi
      · rw [List.getElem?_append_right (by simpa using hi)] at h2
        rw [List.getElem?_replicate] at h2
        split at h2 <;> cases h2
    have ha : vs[i]? = some v := by
      unfold start at h2
      rw [List.getElem?_append_left (by simpa using hi), List.getElem?_map] at h2
      cases e : vs[i]? with
      | none => rw [e] at h2; cases h2
      | some a => rw [e] at h2; cases h2; rfl
    obtain ⟨u, hu, rv⟩ := r.get ha
    have hp : ps[i]? = some y := by
      rw [← S.pre, List.getElem?_take_of_lt (by lia)]; exact h1
    have ndP : ps.Nodup := by rw [← S.pre]; exact S.nd.sublist (List.take_sublist _ _)
    refine ⟨u, rv, ?_⟩
    rcases S.par y (List.mem_of_getElem? hp) with k | k
    · exact .inl ⟨k, bindL_get ndP hp hu k⟩
    · obtain ⟨c, e⟩ := cell_has (n := s.heap.objs.size + 1) k
      refine .inr ⟨.inl k, c, e, ?_⟩
      have q := x.cell y c e
      rw [bindC_get ndP hp hu (by show scope.names.lookup y ≠ _; rw [k]; decide)] at q
      exact q
  · exact e0.hok.fresh (Nat.le_of_lt (x.above y c (PySem.mem_of_lookup h)))
  · unfold start
    show _ = N.length
    rw [List.length_append, List.length_map, List.length_replicate]
    lia
theorem fn_of {CX : CXT} {P : Program} {w : World} {K : PySem.W.Frag} {mg : Str → Option Value} {base : Heap} {k : Nat} {f : Addr} {name qual : Str} {params : Arguments} {body : List Stmt} {scope : Scope} {dV kV doc pm cdv ct oc : Value} {an od : Option Addr}
    {osl : Array (Option Value)} {N ps : List Str} {sp : Sp} (lk : K.lookup f = some ⟨oc, od, .func (PySem.W.fnOf name qual params body scope dV kV doc pm an cdv ct), osl⟩) (hcd : PySem.W.codeIn K cdv qual = true) (S : FnScope N ps scope)
    (len : ∀ vs H Q E, sp vs H Q E → vs.length = ps.length)
    (hbody : ∀ (A : Around) (outer : List Env) (s : Shared) (H : Hp) (vs : List V) (Q : VK) (E : XK), Room k (A.deeper (envOfC qual scope s.heap.objs.size f cdv)) → sp vs H Q E →
      ∃ t, PSs (cxOf CX P w K mg base N qual scope f cdv A outer s H E) body t ∧ t { nx := fun _ H' => Q .non H', rt := Q } (start N vs) H) :
    FnOk P w K mg base CX (k + 1) f (PySem.W.fnOf name qual params body scope dV kV doc pm an cdv ct) ps sp := by
  refine ⟨len, fun A outer s H args us vs Q E hr e0 hb r hsp => ?_⟩
  have hl := len _ _ _ _ hsp
  have KX : K.In s.heap := e0.mod.kin.keeps fun b o e => (e0.bs b o e).1
  have lim : s.heap.NoLimit := e0.mod.nolimit.keeps fun b o e => (e0.bs b o e).1
  have hkind : ∀ y ∈ ps.zip us, scope.names.lookup y.1 = some .local ∨ (scope.names.lookup y.1 = some .cell ∧ ((cellsFrom (s.heap.objs.size + 1) scope.names []).lookup y.1).isSome = true) := fun ⟨n, v⟩ hy => by
    rcases S.par n (List.of_mem_zip hy).1 with q | q
    · exact .inl q
    · exact .inr ⟨q, PySem.W.cellsFrom_some _ _ _ (.inl q)⟩
  refine codeAny_call_function hr.depth (KX _ _ lk) rfl S.co S.gen rfl (PySem.W.codeRec_of KX hcd) (hb _ _ _ _ ?_)
  refine wpAny_newFunctionEnv_cells S.kind hkind fun env he s1 x => ?_
  subst he
  refine ⟨lim.keeps x.toInCall.keep, codeAny_func ?_⟩
  obtain ⟨t, ht, hq⟩ := hbody A outer s H vs Q E (hr.deeper _) hsp
  have I : Inv (cxOf CX P w K mg base N qual scope f cdv A outer s H E) [] (start N vs) H s1 := inv_start S hr.hd e0 hl r x
  refine wpAny_mono (ht [] s1 (start N vs) H _ I hq) (fun fl s' hs => ?_) fun e s' hs => hs
  have fin : ∀ {σ' : St} {H' : Hp} {v : V} {u : Value}, Inv (cxOf CX P w K mg base N qual scope f cdv A outer s H E) [] σ' H' s' → RelV v u → Q v H' → CE outer P w H s Q u s' :=
    fun {σ' H' v u} J rv q => ⟨v, H', J.os, J.bare, J.base, J.hok, rv, q⟩
  cases fl with
  | ret u =>
    obtain ⟨v, σ', H', J, rv, q⟩ := hs
    exact fin J rv q
  | next =>
    obtain ⟨σ', H', J, q⟩ := hs
    exact fin (v := V.non) (u := Value.none) J rfl q
  | brk =>
    obtain ⟨_, _, _, q⟩ := hs
    exact False.elim q
  | cont =>
    obtain ⟨_, _, _, q⟩ := hs
    exact False.elim q
end L2
namespace L2
open PySem PySem.Spec PyProof.Rows
section
variable {X : Cx} {x : Str} {p pos : Pos} {e : Expr} {es : List Expr} {t : TA} {id T : String} {r : List V → Hp → VK → Prop}
noncomputable def tCB (r : List V → Hp → VK → Prop) (t : TA) : TE := fun σ H Q => t σ H fun vs H1 => r vs H1 Q
theorem pe_callB (hc : CallR X (.builtin id) r) (hg : Gl X x) (hm : X.mg x = none) (hv : bootBuiltins x = some (.builtin id)) (ha : PA X (e :: es) t) (hn : x ≠ "__name__" := by decide) (hdb : (x == ("__debug__" : Str)) = false := by decide)
    (he : starEach (e :: es) X.env = (false, eval e X.env) :: starEach es X.env := by rfl) (hpl : (backTo pos (starEach es X.env)).any (·.1) = false := by rfl) : PE X (.Call (.Name x p) (e :: es) [] pos) (tCB r t) := by
  intro pins s σ H Q I h
  refine wpAny_Call_Name_kw (ld_blt I hg hm hv ?_ hn hdb)
  exact PyProof.Rows.callWith_builtin1 (thn (ha pos pins s σ H _ I h) fun us s1 ⟨vs, H1, I1, r1, q1⟩ => hc pins s1 σ H1 vs us Q I1 r1 q1) he hpl
theorem pe_callTy (hc : CallR X (.type T) r) (hg : Gl X x) (hm : X.mg x = none) (hv : bootBuiltins x = some (.type T)) (ha : PA X (e :: es) t) (hn : x ≠ "__name__" := by decide) (hdb : (x == ("__debug__" : Str)) = false := by decide)
    (he : starEach (e :: es) X.env = (false, eval e X.env) :: starEach es X.env := by rfl) (hpl : (backTo pos (starEach es X.env)).any (·.1) = false := by rfl) : PE X (.Call (.Name x p) (e :: es) [] pos) (tCB r t) := by
  intro pins s σ H Q I h
  refine wpAny_Call_Name_kw (ld_blt I hg hm hv ?_ hn hdb)
  exact PyProof.Rows.callWith_type1 (thn (ha pos pins s σ H _ I h) fun us s1 ⟨vs, H1, I1, r1, q1⟩ => hc pins s1 σ H1 vs us Q I1 r1 q1) he hpl
end
end L2
namespace L2
open PySem PySem.Spec PyProof.Rows
section
variable {κ : Type} [DecidableEq κ]
noncomputable def valV (kvs : List (κ × V)) (k : κ) : Option V := (kvs.find? fun kv => decide (kv.1 = k)).map (·.2)
noncomputable def putK (kvs : List (κ × V)) (k : κ) (v : V) : List (κ × V) :=
  if (kvs.any fun kv => decide (kv.1 = k)) = true then kvs.map (fun kv => if kv.1 = k then (kv.1, v) else kv) else kvs ++ [(k, v)]
theorem valV_neg {p : κ × V} {r : List (κ × V)} {k : κ} (e : ¬ p.1 = k) : valV (p :: r) k = valV r k := by simp [valV, List.find?_cons, e]
theorem RelO.getD {o : Option V} {u : Option Value} {d : V} {d' : Value} (r : RelO o u) (rd : RelV d d') : RelV (o.getD d) (u.getD d') := by
  cases o with
  | none => cases u with
    | none => exact rd
    | some _ => exact (show False from r).elim
  | some _ => cases u with
    | none => exact (show False from r).elim
    | some _ => exact r
theorem KV.keys {kvs : List (κ × V)} {vs : List (κ × Value)} (r : KV kvs vs) : kvs.map (·.1) = vs.map (·.1) := by
  unfold KV at r
  induction r with
  | nil => rfl
  | cons h t ih => rw [List.map_cons, List.map_cons, ih, h.1]
theorem KV.length {kvs : List (κ × V)} {vs : List (κ × Value)} (r : KV kvs vs) : kvs.length = vs.length := Paired.length r
end
section
variable {P : Program} {w : World} {H : Hp} {h : Heap} {a : Addr}
end
noncomputable def DGet (H : Hp) (a : Addr) (y : V) (r : Option V) : Prop :=
  (∃ kvs k, Rd H a (.dK kvs) ∧ y = kV k ∧ r = valV kvs k) ∨ ∃ kvs k b, Rd H a (.dT kvs) ∧ y = .ref b ∧ H b = some (.tup (k.map kV)) ∧ r = valV kvs k
noncomputable def DPut (H : Hp) (a : Addr) (y v : V) (H' : Hp) : Prop :=
  (∃ kvs k, H a = some (.dK kvs) ∧ y = kV k ∧ kvs.length < sizeLine ∧ H' = upd H a (.dK (putK kvs k v))) ∨
  ∃ kvs k b, H a = some (.dT kvs) ∧ y = .ref b ∧ H b = some (.tup (k.map kV)) ∧ kvs.length < sizeLine ∧ H' = upd H a (.dT (putK kvs k v))
theorem DGet.k {H : Hp} {a : Addr} {kvs : List (Key × V)} {k : Key} (e : H a = some (.dK kvs)) : DGet H a (kV k) (valV kvs k) := .inl ⟨kvs, k, .inl e, rfl, rfl⟩
theorem DGet.t {H : Hp} {a b : Addr} {kvs : List (List Key × V)} {k : List Key} (e : H a = some (.dT kvs)) (eb : H b = some (.tup (k.map kV))) : DGet H a (.ref b) (valV kvs k) := .inr ⟨kvs, k, b, .inl e, rfl, eb, rfl⟩
theorem DPut.k {H : Hp} {a : Addr} {kvs : List (Key × V)} {k : Key} {v : V} (e : H a = some (.dK kvs)) (hl : kvs.length < sizeLine) : DPut H a (kV k) v (upd H a (.dK (putK kvs k v))) := .inl ⟨kvs, k, e, rfl, hl, rfl⟩
theorem DPut.t {H : Hp} {a b : Addr} {kvs : List (List Key × V)} {k : List Key} {v : V} (e : H a = some (.dT kvs)) (eb : H b = some (.tup (k.map kV))) (hl : kvs.length < sizeLine) :
    DPut H a (.ref b) v (upd H a (.dT (putK kvs k v))) := .inr ⟨kvs, k, b, e, rfl, eb, hl, rfl⟩
section
variable {X : Cx} {pins : List (Addr × Obj)} {σ : St} {H : Hp} {s : Shared} {a : Addr} {y v : V} {u r : Value} {o : Option V} {A : Around} {E : Value → Shared → Prop}
theorem Inv.big (I : Inv X pins σ H s) : sysModules < s.heap.objs.size := by
  have h : mainGlobals < s.heap.objs.size := (I.mod.glob.keeps I.bk).lt
  exact Nat.lt_trans (by decide) h
end
section
variable {X : Cx} {pins : List (Addr × Obj)} {σ : St} {H : Hp} {s : Shared} {a : Addr} {kvs : List (Key × V)} {k : Key} {u : Value} {A : Around} {E : Value → Shared → Prop}
end
section
variable {X : Cx} {o i e value : Expr} {pos pos' tpos : Pos} {td ty tv : TE}
end
theorem dk_empty {P : Program} {w : World} {H : Hp} (h : Heap) (hb : sysModules < h.objs.size) : ObjOk P w H (h.push { cls := .type "dict", data := .dict #[] }) h.objs.size (.dK []) :=
  ⟨Nat.zero_le _, beq_eq_false_iff_ne.mpr (Ne.symm (Nat.ne_of_lt hb)), [], .nil, Heap.DictOf.new h⟩
noncomputable def tDNewK : TE := fun _ H Q => ∀ p, H p = none → Q (.ref p) (upd H p (.dK []))
section
variable {X : Cx} {pos : Pos}
theorem pe_dnewK : PE X (.Dict [] [] pos) tDNewK := fun pins s σ H Q I h =>
  wpAny_Dict_empty ⟨.ref s.heap.objs.size, _, I.laid (a := s.heap.objs.size) (o := .dK []) (t' := s.toks) (fun _ _ q => Heap.get?_push_of_some _ q) (Nat.le_refl _) (dk_empty s.heap I.big), rfl, h _ (I.hok.fresh (Nat.le_refl _))⟩
end
section
variable {X : Cx} {pins : List (Addr × Obj)} {σ : St} {H : Hp} {s : Shared} {a : Addr} {y d : V} {u r : Value} {o : Option V} {A : Around} {E : Value → Shared → Prop}
end
section
variable {X : Cx} {o e f : Expr} {apos cpos : Pos} {td ty tx : TE}
end
section
variable {X : Cx} {pins : List (Addr × Obj)} {σ : St} {H : Hp} {s : Shared} {a : Addr} {kvs : List (Key × V)} {A : Around} {E : Value → Shared → Prop}
end
section
variable {X : Cx} {pins : List (Addr × Obj)} {σ : St} {H : Hp} {s : Shared} {a : Addr} {y : V} {u : Value} {A : Around} {E : Value → Shared → Prop}
end
end L2
namespace HT
open PySem PyProof.Rows
section
open PySem.SeqAt
open PySem.AutoSeq1 (wpAny_loadPart')
open PySem.MeetsSeq PySem.MeetsSeq2 PySem.MeetsSeq3
end
section
variable {prog : Program} {w : World} {A : Around} {E : Value → Shared → Prop} {s : Shared}
noncomputable def sIx (n d : Nat) : Option Int → Nat
  | none => d
  | some v => if v < 0 then (v + (n : Int)).toNat else min v.toNat n
theorem sIx_none (n d : Nat) : sIx n d none = d := rfl
theorem sIx_nat (n d k : Nat) : sIx n d (some (k : Int)) = min k n := by
  show (if (k : Int) < 0 then ((k : Int) + (n : Int)).toNat else min (k : Int).toNat n) = min k n
  rw [if_neg (by lia), Int.toNat_natCast]
end
end HT
namespace L2
open PySem PySem.Spec PyProof.Rows
noncomputable abbrev TO := St → Hp → (Option Int → Hp → Prop) → Prop
noncomputable def PO (X : Cx) (e : Option Expr) (t : TO) : Prop :=
  ∀ (pins : List (Addr × Obj)) (s : Shared) (σ : St) (H : Hp) (Q : Option Int → Hp → Prop), Inv X pins σ H s → t σ H Q →
    wpAny (model X.prog X.w) X.A (evalPart e X.env) (fun u s' => ∃ o H', Inv X pins σ H' s' ∧ IsPart u o ∧ Q o H') X.xe s
noncomputable def tNoPart : TO := fun _ H Q => Q none H
noncomputable def tPart (t : TE) : TO := fun σ H Q => t σ H fun x H1 => ∃ i, x = .int i ∧ Q (some i) H1
theorem intsAre_of {ns : List Int} : ∀ {us : List Value}, Vals (ns.map V.int) us → IntsAre us ns := by
  induction ns with
  | nil => intro us r; rw [List.map_nil] at r; cases r; exact .nil
  | cons n ns ih =>
    intro us r
    rw [List.map_cons] at r
    cases r with
    | cons r1 r2 =>
      obtain ⟨t, e⟩ := r1
      subst e
      exact .cons n t (ih r2)
section
variable {X : Cx} {e : Expr} {te : TE} {lo hi : Option Expr} {tl th : TO} {pos p2 : Pos}
theorem po_none : PO X none tNoPart := by
  intro pins s σ H Q I h
  rw [evalPart_none]
  exact wpAny_pure ⟨none, H, I, .none, h⟩
theorem po_some (h : PE X e te) : PO X (some e) (tPart te) := by
  intro pins s σ H Q I hw
  rw [evalPart_some]
  refine thn (h pins s σ H _ I hw) fun u s1 hh => ?_
  obtain ⟨x, H1, I1, r1, q1⟩ := hh
  obtain ⟨i, rfl, q⟩ := q1
  obtain ⟨t, rfl⟩ := r1
  exact ⟨some i, H1, I1, .int i t, q⟩
noncomputable def SlR (X : Cx) (r : V → Option Int → Option Int → Hp → VK → Prop) : Prop :=
  ∀ (pins : List (Addr × Obj)) (s : Shared) (σ : St) (H : Hp) (x : V) (v vl vu : Value) (lo hi : Option Int) (sl : Addr) (Q : VK), Inv X pins σ H s → RelV x v → s.heap.IsSliceOf sl vl vu .none → IsPart vl lo → IsPart vu hi → r x lo hi H Q →
    ∃ T id, typeLookup (.type T) "__getitem__" = pure (some (.builtin id)) ∧ s.TypeIs v T ∧ wpAny (model X.prog X.w) X.A (getItem v (.ref sl)) (EP X pins σ Q) X.xe s
noncomputable def tSl (r : V → Option Int → Option Int → Hp → VK → Prop) (te : TE) (tl th : TO) : TE := fun σ H Q => te σ H fun x H1 => tl σ H1 fun l H2 => th σ H2 fun u H3 => r x l u H3 Q
theorem pe_slice {r : V → Option Int → Option Int → Hp → VK → Prop} (hr : SlR X r) (he : PE X e te) (hl : PO X lo tl) (hu : PO X hi th) : PE X (.Subscript e (.Slice lo hi none p2) pos) (tSl r te tl th) := by
  intro pins s σ H Q I h
  refine Subscript_ (thn (he pins s σ H _ I h) fun v s1 hh => ?_)
  obtain ⟨x, H1, I1, r1, q1⟩ := hh
  refine wpAny_Slice (thn (hl pins s1 σ H1 _ I1 q1) fun vl s2 hh => ?_)
  obtain ⟨l, H2, I2, pl, q2⟩ := hh
  refine thn (hu pins s2 σ H2 _ I2 q2) fun vu s3 hh => ?_
  obtain ⟨u, H3, I3, pu, q3⟩ := hh
  rw [evalPart_none]
  refine wpAny_pure ?_
  have I4 : Inv X pins σ H3 { s3 with heap := s3.heap.push { cls := .type "slice", data := .fields #[vl, vu, .none] } } := I3.kept (t' := s3.toks) fun b ob q => Heap.get?_push_of_some _ q
  obtain ⟨T, id, hT, ht, hg⟩ := hr pins { s3 with heap := s3.heap.push { cls := .type "slice", data := .fields #[vl, vu, .none] } } σ H3 x v vl vu l u s3.heap.objs.size Q I4 r1 (Heap.IsSliceOf.new ..) pl pu q3
  show wpAny (model X.prog X.w) X.A (subscriptTail e (.Slice lo hi none p2) v (.ref s3.heap.objs.size)) (EP X pins σ Q) X.xe { s3 with heap := s3.heap.push { cls := .type "slice", data := .fields #[vl, vu, .none] } }
  exact tail_any (ops := [.ref s3.heap.objs.size, v]) ht hT hg (by with_unfolding_all rfl)
noncomputable def cutV (xs : List V) (lo hi : Option Int) : List V := (xs.drop (HT.sIx xs.length 0 lo)).take (HT.sIx xs.length xs.length hi - HT.sIx xs.length 0 lo)
theorem cutV_length (xs : List V) (lo hi : Option Int) : (cutV xs lo hi).length ≤ xs.length := by
  unfold cutV
  rw [List.length_take, List.length_drop]
  lia
end
end L2
namespace L2
open PySem PySem.Spec PyProof.Rows
noncomputable def ixN (n : Nat) (i : Int) : Option Nat := if 0 ≤ i then (if i < n then some i.toNat else none) else if -(n : Int) ≤ i then some (i + n).toNat else none
noncomputable def atI {α : Type} (xs : List α) (i : Int) : Option α := (ixN xs.length i).bind fun j => xs[j]?
theorem ixN_seq {n : Nat} {i : Int} {j : Nat} (h : ixN n i = some j) : seqIndex? i n = some j ∧ j < n ∧ -(n : Int) ≤ i ∧ i < n := by
  unfold ixN at h
  by_cases h0 : 0 ≤ i
  · rw [if_pos h0] at h
    by_cases h1 : i < n
    · rw [if_pos h1] at h
      have e : i.toNat = j := Option.some.inj h
      exact ⟨by rw [seqIndex_of h0 h1, e], by lia, by lia, h1⟩
    · rw [if_neg h1] at h; cases h
  · rw [if_neg h0] at h
    by_cases h1 : -(n : Int) ≤ i
    · rw [if_pos h1] at h
      have e : (i + n).toNat = j := Option.some.inj h
      exact ⟨by rw [seqIndex_neg (by lia) h1, e], by lia, h1, by lia⟩
    · rw [if_neg h1] at h; cases h
theorem atI_get {α : Type} {xs : List α} {i : Int} {v : α} (h : atI xs i = some v) : ∃ j, seqIndex? i xs.length = some j ∧ xs[j]? = some v ∧ j < xs.length ∧ -(xs.length : Int) ≤ i ∧ i < xs.length := by
  unfold atI at h
  cases e : ixN xs.length i with
  | none => rw [e] at h; cases h
  | some j =>
    rw [e] at h
    obtain ⟨h1, h2, h3, h4⟩ := ixN_seq e
    exact ⟨j, h1, h, h2, h3, h4⟩
theorem atI_nat {α : Type} {xs : List α} {j : Nat} {v : α} (h : xs[j]? = some v) : atI xs (j : Int) = some v := by
  have hj : j < xs.length := (List.getElem?_eq_some_iff.mp h).1
  have e : ixN xs.length (j : Int) = some j := by
    unfold ixN
    rw [if_pos (by lia), if_pos (by lia)]; simp
  unfold atI; rw [e]; exact h
noncomputable def PlainIx (b : Expr) : Prop := ∀ o i, subscripted b false o i = operate [o, i] (getItem o i)
noncomputable def IxR (X : Cx) (r : R2) : Prop :=
  ∀ (value slice : Expr) (pins : List (Addr × Obj)) (s : Shared) (σ : St) (H : Hp) (x y : V) (v u : Value) (Q : VK), Inv X pins σ H s → RelV x v → RelV y u → r x y H Q →
    subscripted slice false v u = operate [v, u] (getItem v u) → wpAny (model X.prog X.w) X.A (subscriptTail value slice v u) (EP X pins σ Q) X.xe s
noncomputable def MtR (X : Cx) (id : String) (r : V → List V → Hp → VK → Prop) : Prop :=
  ∀ (pins : List (Addr × Obj)) (s : Shared) (σ : St) (H : Hp) (x : V) (xs : List V) (v : Value) (us : List Value) (Q : VK), Inv X pins σ H s → RelV x v → Vals xs us → r x xs H Q →
    wpAny (model X.prog X.w) X.A (call (.builtin id) (v :: us)) (EP X pins σ Q) X.xe s
section
variable {X : Cx} {a b : Expr} {ta tb : TE} {pos : Pos}
theorem pe_ix {r : R2} (hr : IxR X r) (ha : PE X a ta) (hb : PE X b tb) (hs : PlainIx b) : PE X (.Subscript a b pos) (tOp r ta tb) := by
  intro pins s σ H Q I h
  exact Subscript_ (binT ha hb I h fun v u s2 x y H2 I2 rx ry q => hr a b pins s2 σ H2 x y v u Q I2 rx ry q (hs _ _))
noncomputable def rIxL (K : PySem.W.Frag) : R2 := fun x y H Q => ∃ p xs i v, x = .ref p ∧ y = .int i ∧ SqL K H p xs ∧ atI xs i = some v ∧ Q v H
noncomputable def rIxT (K : PySem.W.Frag) : R2 := fun x y H Q => ∃ p xs i v, x = .ref p ∧ y = .int i ∧ SqT K H p xs ∧ atI xs i = some v ∧ Q v H
noncomputable def rIxS : R2 := fun x y H Q => ∃ z i c, x = .str z ∧ y = .int i ∧ z.length ≤ sizeLine ∧ atI z.cps.toList i = some c ∧ Q (.str ⟨#[c]⟩) H
theorem ix_list : IxR X (rIxL X.K) := by
  intro value slice pins s σ H x y v u Q I rx ry h hs
  obtain ⟨p, xs, i, z, rfl, rfl, hq, he, q⟩ := h
  cases rx
  obtain ⟨t, rfl⟩ := ry
  obtain ⟨its, r, pl, hz⟩ := I.list hq
  obtain ⟨j, h1, h2, h3, h4, h5⟩ := atI_get he
  obtain ⟨w, ew, rw'⟩ := r.get h2
  have hl := r.length
  have hn := line63
  have fin : EP X pins σ Q w s := ⟨z, H, I, rw', q⟩
  by_cases h0 : 0 ≤ i
  · have hj : i.toNat = j := by
      rw [seqIndex_of h0 h5] at h1
      exact Option.some.inj h1
    exact item_listR pl.isList h0 (by lia) (by rw [hj]; simpa using ew) fin hs
  · have hj : (i + (its.toArray.size : Int)).toNat = j := by
      rw [seqIndex_neg (by lia) h4] at h1
      rw [List.size_toArray, ← hl]
      exact Option.some.inj h1
    exact subscriptTail_builtinR (x := w) pl.isList.typeIs slot_list_getitem.lookup
      (wpAny_getItem_list_neg (Q := fun r s' => r = w ∧ EP X pins σ Q r s') pl.isList (by lia) (by rw [List.size_toArray] <;> lia) (by lia) (by rw [hj]; simpa using ew) ⟨rfl, fin⟩) hs
theorem ix_tup : IxR X (rIxT X.K) := by
  intro value slice pins s σ H x y v u Q I rx ry h hs
  obtain ⟨p, xs, i, z, rfl, rfl, hq, he, q⟩ := h
  cases rx
  obtain ⟨t, rfl⟩ := ry
  obtain ⟨its, r, pl, hz⟩ := I.tuple hq
  obtain ⟨j, h1, h2, h3, h4, h5⟩ := atI_get he
  obtain ⟨w, ew, rw'⟩ := r.get h2
  have hl := r.length
  have hn := line63
  have fin : EP X pins σ Q w s := ⟨z, H, I, rw', q⟩
  exact subscriptTail_builtinR (x := w) pl.typeIs slot_tuple_getitem.lookup
    (getItem_tuple (j := j) (Q := fun r s' => r = w ∧ EP X pins σ Q r s') pl (by lia) (by lia) (by rw [List.size_toArray, ← hl]; exact h1) (by simpa using ew) ⟨rfl, fin⟩) hs
theorem ix_str : IxR X rIxS := by
  intro value slice pins s σ H x y v u Q I rx ry h hs
  obtain ⟨z, i, c, rfl, rfl, hz, he, q⟩ := h
  obtain ⟨t, rfl⟩ := rx
  obtain ⟨t', rfl⟩ := ry
  obtain ⟨j, h1, h2, h3, h4, h5⟩ := atI_get he
  have hl : z.cps.toList.length = z.length := by simp [Str.length]
  rw [hl] at h1 h4 h5
  have hn := line63
  exact tail_any (typeIs_str s z t) slot_str_getitem.lookup (getItem_str (c := c) (by
    have e1 : decide (i < -(2 ^ 63 : Int)) = false := decide_eq_false (by lia)
    have e2 : decide (i ≥ 2 ^ 63) = false := decide_eq_false (by lia)
    rw [e1, e2, Bool.or_false]) (by rw [h1]; simpa using h2) ⟨.str ⟨#[c]⟩, H, I.tok _, ⟨_, rfl⟩, q⟩) hs
theorem mapSeq_set (its : List Value) (n j : Nat) (u : Value) : Obj.mapSeq (·.setIfInBounds j u) { cls := .type "list", data := .seq its.toArray n } = { cls := .type "list", data := .seq (its.set j u).toArray n } := by
  simp [Obj.mapSeq]
theorem Inv.lst {pins : List (Addr × Obj)} {σ : St} {H : Hp} {s : Shared} {p : Addr} {xs : List V} (I : Inv X pins σ H s) (h : H p = some (.lst xs)) :
    ∃ (its : List Value) (n : Nat), Vals xs its ∧ s.heap.get? p = some { cls := .type "list", data := .seq its.toArray n } ∧ xs.length ≤ sizeLine := by
  obtain ⟨z, its, n, r, e⟩ := I.hok p _ h
  exact ⟨its, n, r, e, z⟩
theorem Inv.lstUpd {pins : List (Addr × Obj)} {σ : St} {H : Hp} {s : Shared} {p : Addr} {xs ys : List V} {its its' : List Value} {n n' : Nat} {f : Obj → Obj} (I : Inv X pins σ H s) (h : H p = some (.lst xs))
    (ho : s.heap.get? p = some { cls := .type "list", data := .seq its.toArray n }) (hf : f { cls := .type "list", data := .seq its.toArray n } = { cls := .type "list", data := .seq its'.toArray n' }) (r : Vals ys its') (hz : ys.length ≤ sizeLine) (t : Nat) :
    Inv X pins σ (upd H p (.lst ys)) { s with heap := s.heap.update p f, toks := t } := by
  have e : (s.heap.update p f).get? p = some { cls := .type "list", data := .seq its'.toArray n' } := by
    rw [Heap.get?_update_self f ho (by rw [hf] <;> rfl), hf]
  refine I.write (x := p) (e := p) (by rw [h]; trivial) (.inl rfl) (fun b u hb q => (Heap.get?_update_other _ _ (Ne.symm hb)).trans q) ⟨_, e⟩ ?_
  exact ⟨hz, its', n', r, e⟩
noncomputable def rSetL : V → V → V → Hp → (Hp → Prop) → Prop := fun o i v H Q => ∃ p xs k j, o = .ref p ∧ i = .int k ∧ H p = some (.lst xs) ∧ ixN xs.length k = some j ∧ Q (upd H p (.lst (xs.set j v)))
theorem set_list : PSet X rSetL := by
  intro pins s σ H o i v ov iv u Q I ro ri rv h
  obtain ⟨p, xs, k, j, rfl, rfl, hp, hj, q⟩ := h
  cases ro
  obtain ⟨t, rfl⟩ := ri
  obtain ⟨its, n, r, ho, hz⟩ := I.lst hp
  obtain ⟨h1, h2, h3, h4⟩ := ixN_seq hj
  have hl := r.length
  have hn := line63
  have I' : Inv X pins σ (upd H p (.lst (xs.set j v))) { s with heap := s.heap.update p (Obj.mapSeq (·.setIfInBounds j u)) } :=
    I.lstUpd hp ho (mapSeq_set its n j u) (r.set rv j) (by rw [List.length_set]; exact hz) s.toks
  by_cases h0 : 0 ≤ k
  · have hk : k.toNat = j := by
      rw [seqIndex_of h0 h4] at h1
      exact Option.some.inj h1
    exact PySem.W.ki_setAt ho h0 (by lia) (by rw [List.size_toArray, ← hl]; exact h4) (by rw [hk]; exact ⟨_, I', q⟩)
  · have hk : (k + (its.toArray.size : Int)).toNat = j := by
      rw [seqIndex_neg (by lia) h3] at h1
      rw [List.size_toArray, ← hl]
      exact Option.some.inj h1
    exact PySem.W.ki_setBack ho (by lia) (by rw [List.size_toArray, ← hl]; exact h3) (by lia) (by rw [hk]; exact ⟨_, I', q⟩)
theorem slice_bounds (lo hi : Option Int) (n : Nat) : (sliceBounds lo hi none n).1 = ((HT.sIx n 0 lo : Nat) : Int) ∧ (sliceBounds lo hi none n).2.1 = ((HT.sIx n n hi : Nat) : Int) ∧ (sliceBounds lo hi none n).2.2 = 1 := by
  refine ⟨?_, ?_, rfl⟩
  · cases lo with
    | none => simp [sliceBounds, HT.sIx]
    | some i =>
      simp only [sliceBounds, HT.sIx, Option.getD_none, show (1 : Int) > 0 by decide, if_true]
      by_cases h : i < 0
      · simp only [h, if_true] <;> lia
      · simp only [h, if_false] <;> lia
  · cases hi with
    | none => simp [sliceBounds, HT.sIx]
    | some i =>
      simp only [sliceBounds, HT.sIx, Option.getD_none, show (1 : Int) > 0 by decide, if_true]
      by_cases h : i < 0
      · simp only [h, if_true] <;> lia
      · simp only [h, if_false] <;> lia
theorem slicePick_cut (its : List Value) (lo hi : Option Int) : slicePick its.toArray lo hi none = ((its.drop (HT.sIx its.length 0 lo)).take (HT.sIx its.length its.length hi - HT.sIx its.length 0 lo)).toArray := by
  obtain ⟨h1, h2, h3⟩ := slice_bounds lo hi its.toArray.size
  unfold slicePick
  rw [h1, h2, h3]
  simp only [sliceRange_one, pick_run, List.size_toArray] <;> rfl
noncomputable def rSlL (K : PySem.W.Frag) : V → Option Int → Option Int → Hp → VK → Prop := fun x lo hi H Q => ∃ a xs, x = .ref a ∧ SqL K H a xs ∧ ∀ p, H p = none → Q (.ref p) (upd H p (.lst (cutV xs lo hi)))
theorem sl_list : SlR X (rSlL X.K) := by
  intro pins s σ H x v vl vu lo hi sl Q I rx hs pl pu h
  obtain ⟨a, xs, rfl, hx, q⟩ := h
  cases rx
  obtain ⟨its, r, ht, hz⟩ := I.list hx
  have hlen := r.length
  refine ⟨"list", _, slot_list_getitem.lookup, ht.isList.typeIs, ?_⟩
  refine wpAny_getItem_list_slice ht.isList hs pl pu .none (by simp) ?_ (by rw [List.size_toArray] <;> lia)
  rw [slicePick_cut, ← hlen]
  refine ⟨.ref s.heap.objs.size, _, I.laid (t' := s.toks) (o := .lst (cutV xs lo hi)) (fun b ob q => Heap.get?_push_of_some _ q) (Nat.le_refl _) ?_, rfl, q _ (I.hok.fresh (Nat.le_refl _))⟩
  exact ⟨Nat.le_trans (cutV_length xs lo hi) hz, _, 0, (r.drop (HT.sIx xs.length 0 lo)).take (HT.sIx xs.length xs.length hi - HT.sIx xs.length 0 lo), Heap.get?_push_size _ rfl⟩
theorem op_notIn_str : OpR X (compareOp .NotIn) (fun x y H Q => ∃ i j, x = .str i ∧ y = .str j ∧ Q (.bl (!(!(Builtin.Str.occurrences j i 0 j.length 1).isEmpty))) H) := by
  intro pins s σ H x y v u Q I rx ry h
  obtain ⟨i, j, rfl, rfl, q⟩ := h
  obtain ⟨t, rfl⟩ := rx
  obtain ⟨t', rfl⟩ := ry
  exact notIn_str ⟨.bl _, H, I, rfl, q⟩
theorem call_len_seq : CallR X (.builtin "len") (fun xs H Q => ∃ p ys, xs = [.ref p] ∧ (SqL X.K H p ys ∨ SqT X.K H p ys) ∧ Q (.int ys.length) H) := by
  intro pins s σ H xs us Q I r h
  obtain ⟨p, ys, rfl, hq, q⟩ := h
  obtain ⟨u, rfl, rx⟩ := vals1 r
  cases rx
  have hn := line63
  rcases hq with hq | hq
  · obtain ⟨its, r', pl, hz⟩ := I.list hq
    have hlen := r'.length
    exact Calls.call_len_list pl.isList (by simp only [List.size_toArray] <;> lia) ⟨.int ys.length, H, I.tok _, ⟨s.toks + 1, by rw [List.size_toArray, hlen]⟩, q⟩
  · obtain ⟨its, r', pl, hz⟩ := I.tuple hq
    have hlen := r'.length
    exact len_tuple pl (by simp only [List.size_toArray] <;> lia) ⟨.int ys.length, H, I.tok _, ⟨s.toks + 1, by rw [List.size_toArray, hlen]⟩, q⟩
noncomputable def tyV (K : PySem.W.Frag) (T : String) (x : V) (H : Hp) : Prop := match x with
  | .str _ => T = "str"
  | .int _ => T = "int"
  | .ref p => (T = "list" ∧ ∃ xs, SqL K H p xs) ∨ (T = "tuple" ∧ ∃ o, K.lookup p = some o ∧ o.cls = .type "tuple" ∧ o.dict = none) ∨
      (T = "dict" ∧ ((∃ kvs, H p = some (.dK kvs)) ∨ ∃ kvs, H p = some (.dT kvs))) ∨ (T = "set" ∧ ∃ S n, H p = some (.set S n))
  | _ => False
theorem tyV_is {pins : List (Addr × Obj)} {σ : St} {H : Hp} {s : Shared} {T : String} {x : V} {v : Value} (I : Inv X pins σ H s) (r : RelV x v) (ty : tyV X.K T x H) :
    s.TypeIs v T ∧ ∀ a, v = .ref a → ∃ ob, s.heap.get? a = some ob ∧ ob.dict = none := by
  cases x with
  | str z =>
    obtain ⟨t, rfl⟩ := r
    cases (show T = "str" from ty)
    exact ⟨typeIs_str s z t, fun _ e => nomatch e⟩
  | int i =>
    obtain ⟨t, rfl⟩ := r
    cases (show T = "int" from ty)
    exact ⟨typeIs_int s i t, fun _ e => nomatch e⟩
  | ref p =>
    cases r
    rcases ty with ⟨rfl, xs, hq⟩ | ⟨rfl, o, hk, hc, hd⟩ | ⟨rfl, hk⟩ | ⟨rfl, S, n, hk⟩
    · obtain ⟨its, _, pl, _⟩ := I.list hq
      refine ⟨pl.isList.typeIs, fun a e => ?_⟩
      cases e
      obtain ⟨o, n, e, c, hd, _⟩ := pl
      exact ⟨o, e, hd⟩
    · refine ⟨⟨o, I.kIn p o hk, hc⟩, fun a e => ?_⟩
      cases e
      exact ⟨o, I.kIn _ o hk, hd⟩
    · have z : ∃ o, s.heap.get? p = some o ∧ o.ExactDict := by
        rcases hk with ⟨kvs, hk⟩ | ⟨kvs, hk⟩
        · obtain ⟨_, _, _, _, o, _, _, e, ex, _⟩ := I.hok p _ hk
          exact ⟨o, e, ex⟩
        · obtain ⟨_, _, _, _, o, _, _, e, ex, _⟩ := I.hok p _ hk
          exact ⟨o, e, ex⟩
      obtain ⟨o, e, ex⟩ := z
      refine ⟨⟨o, e, ex.1⟩, fun a e2 => ?_⟩
      cases e2
      exact ⟨o, e, ex.2.1⟩
    · obtain ⟨o, _, _, _, e, ex, _⟩ := I.hok p _ hk
      refine ⟨⟨o, e, ex.1⟩, fun a e2 => ?_⟩
      cases e2
      exact ⟨o, e, ex.2.1⟩
  | _ => exact False.elim ty
noncomputable def tBM0 (K : PySem.W.Frag) (T : String) (r : V → List V → Hp → VK → Prop) (to : TE) : TE := fun σ H Q => to σ H fun x H1 => tyV K T x H1 ∧ r x [] H1 Q
noncomputable def tBM (K : PySem.W.Frag) (T : String) (r : V → List V → Hp → VK → Prop) (to : TE) (t : TA) : TE := fun σ H Q => to σ H fun x H1 => tyV K T x H1 ∧ t σ H1 fun xs H2 => r x xs H2 Q
variable {o e : Expr} {es : List Expr} {to : TE} {t : TA} {name : Str} {apos cpos : Pos} {T id : String} {r : V → List V → Hp → VK → Prop}
theorem pe_bm0 (pa : PlainAttrs T) (slot : Slot T name id) (hty : typeOf (.builtin id) = pure (.type "method_descriptor")) (hm : MtR X id r) (ho : PE X o to)
    (hbase : attributeBase o name X.env (eval o X.env) = eval o X.env := by rfl) (hline : (apos.endLine == cpos.line) = true := by rfl) : PE X (.Call (.Attribute o name apos) [] [] cpos) (tBM0 X.K T r to) := by
  intro pins s σ H Q I h
  refine wpAny_Call_method0_late hbase hline (thn (ho pins s σ H _ I h) fun v s1 hh => ?_)
  obtain ⟨x, H1, I1, r1, ty, q1⟩ := hh
  obtain ⟨h1, h2⟩ := tyV_is I1 r1 ty
  exact ⟨T, id, pa, slot, hty, h1, h2, Calls.callWith_builtin rfl (PySem.evalArgs_none (hm pins s1 σ H1 x [] v [] Q I1 r1 .nil q1))⟩
theorem pe_bm (pa : PlainAttrs T) (slot : Slot T name id) (hty : typeOf (.builtin id) = pure (.type "method_descriptor")) (hm : MtR X id r) (ho : PE X o to) (ha : PA X (e :: es) t)
    (hbase : attributeBase o name X.env (eval o X.env) = eval o X.env := by rfl)
    (hfew : ((backTo cpos (starEach (e :: es) X.env)).all (fun x => !x.1) && (backToKw cpos (keywordEach [] X.env)).all (fun x => x.1.isSome)
      && decide ((e :: es).length + ([] : List Keyword).length + (if ([] : List Keyword).isEmpty then 0 else 1) < 30)) = true := by rfl)
    (hline : (apos.endLine == cpos.line) = true := by rfl) (hs : starEach (e :: es) X.env = (false, eval e X.env) :: starEach es X.env := by rfl) (hplain : (backTo cpos (starEach es X.env)).any (·.1) = false := by rfl) :
    PE X (.Call (.Attribute o name apos) (e :: es) [] cpos) (tBM X.K T r to t) := by
  intro pins s σ H Q I h
  refine wpAny_Call_method_late hbase hfew hline rfl (thn (ho pins s σ H _ I h) fun v s1 hh => ?_)
  obtain ⟨x, H1, I1, r1, ty, q1⟩ := hh
  obtain ⟨h1, h2⟩ := tyV_is I1 r1 ty
  refine ⟨T, id, pa, slot, hty, h1, h2, ?_⟩
  have hA := ha cpos pins s1 σ H1 _ I1 q1
  rw [hs] at hA ⊢
  refine Calls.callWith_builtin (by show (false || (backTo cpos (starEach es X.env)).any (·.1)) = false; rw [hplain] <;> rfl) (Calls.evalArgs_plain ?_)
  exact thn hA fun us s2 ⟨vs, H2, I2, r2, q2⟩ => hm pins s2 σ H2 x vs v us Q I2 r1 r2 q2
end
end L2
namespace L2
open PySem PySem.Spec PyProof.Rows
noncomputable def MtM (X : Cx) (id : String) (r : V → List V → Hp → VK → Prop) : Prop :=
  ∀ (pins : List (Addr × Obj)) (s : Shared) (σ : St) (H : Hp) (x : V) (xs : List V) (v : Value) (us : List Value) (Q : VK), Inv X pins σ H s → RelV x v → Vals xs us → r x xs H Q →
    wpAny (model X.prog X.w) X.A (call (.builtin id) (v :: us)) (EP X pins σ Q) X.xe s
theorem Vals.one {x : V} {us : List Value} (h : Vals [x] us) : ∃ u, us = [u] ∧ RelV x u := by
  cases h with
  | cons r t => cases t; exact ⟨_, rfl, r⟩
theorem Vals.zero : ∀ {us : List Value}, Vals [] us → us = []
  | _, .nil => rfl
theorem Vals.dropLast {xs : List V} {us : List Value} (h : Vals xs us) : Vals xs.dropLast us.dropLast := by
  induction h with
  | nil => exact .nil
  | cons r t ih =>
    cases t with
    | nil => exact .nil
    | cons q t' => exact .cons r ih
theorem Vals.rep {xs : List V} {us : List Value} (h : Vals xs us) : ∀ k : Nat, Vals (List.replicate k xs).flatten (List.replicate k us).flatten
  | 0 => .nil
  | k + 1 => by
    rw [List.replicate_succ, List.replicate_succ, List.flatten_cons, List.flatten_cons]
    exact Vals.append h (Vals.rep h k)
theorem erase_last {α : Type} (l : List α) : l.eraseIdx (l.length - 1) = l.dropLast := by
  induction l with
  | nil => rfl
  | cons a r ih =>
    cases r with
    | nil => rfl
    | cons b r =>
      have e : (a :: b :: r).length - 1 = ((b :: r).length - 1) + 1 := by
        have h1 : (a :: b :: r).length = r.length + 2 := rfl
        have h2 : (b :: r).length = r.length + 1 := rfl
        lia
      rw [e, List.eraseIdx_cons_succ, ih]
      all_goals rfl
theorem foldl_rep (its : List Value) : ∀ (k : Nat) (acc : List Value),
    List.foldl (fun x1 x2 => x1 ++ x2) acc.toArray (List.replicate k its.toArray) = (acc ++ (List.replicate k its).flatten).toArray
  | 0, acc => by simp
  | k + 1, acc => by
    have e : acc.toArray ++ its.toArray = (acc ++ its).toArray := by simp
    have e2 : (acc ++ its) ++ (List.replicate k its).flatten = acc ++ (List.replicate (k + 1) its).flatten := by
      rw [List.replicate_succ, List.flatten_cons, List.append_assoc]
    rw [← e2, ← foldl_rep its k (acc ++ its), ← e, List.replicate_succ, List.foldl_cons]
section
variable {X : Cx} {pins : List (Addr × Obj)} {σ : St} {H : Hp} {s : Shared} {l b : Addr} {xs ys zs : List V}
theorem Inv.lset {its its' : List Value} {n : Nat} {f : Array Value → Array Value} {t' : Nat} (I : Inv X pins σ H s) (hH : H l = some (.lst xs))
    (e : s.heap.get? l = some { cls := .type "list", data := .seq its.toArray n }) (hf : f its.toArray = its'.toArray) (hv : Vals ys its') (hz : ys.length ≤ sizeLine) :
    Inv X pins σ (upd H l (.lst ys)) { s with heap := s.heap.update l (Obj.mapSeq f), toks := t' } := by
  have q := PySem.IsL.update e f
  rw [hf] at q
  refine I.write (x := l) (e := l) (by rw [hH]; exact trivial) (.inl rfl) (fun b' u hb hu => (Heap.get?_update_other s.heap (Obj.mapSeq f) (Ne.symm hb)).trans hu) ⟨_, q⟩ ?_
  exact ⟨hz, its', _, hv, q⟩
theorem Inv.lnew {its : List Value} {t' : Nat} (I : Inv X pins σ H s) (hv : Vals ys its) (hz : ys.length ≤ sizeLine) :
    Inv X pins σ (upd H s.heap.objs.size (.lst ys)) { s with heap := s.heap.push { cls := .type "list", data := .seq its.toArray }, toks := t' } :=
  I.laid (fun _ _ q => Heap.get?_push_of_some _ q) (Nat.le_refl _) ⟨hz, its, 0, hv, Heap.get?_push_size _ rfl⟩
theorem Inv.fresh (I : Inv X pins σ H s) : H s.heap.objs.size = none := I.hok.fresh (Nat.le_refl _)
theorem Inv.lstM (I : Inv X pins σ H s) (hH : H l = some (.lst xs)) : xs.length ≤ sizeLine ∧ ∃ (its : List Value) (n : Nat), Vals xs its ∧ xs.length = its.length ∧ s.heap.get? l = some { cls := .type "list", data := .seq its.toArray n } := by
  obtain ⟨z, its, n, r, e⟩ := I.hok l _ hH
  exact ⟨z, its, n, r, r.length, e⟩
theorem notLongL {n : Nat} (h : n ≤ sizeLine) : Builtin.List.listTooLong n = false := by
  unfold Builtin.List.listTooLong
  exact decide_eq_false (by lia)
end
section
variable {X : Cx}
noncomputable def rAppend : V → List V → Hp → VK → Prop := fun x vs H Q => ∃ l xs y, x = .ref l ∧ vs = [y] ∧ H l = some (.lst xs) ∧ xs.length < sizeLine ∧ Q .non (upd H l (.lst (xs ++ [y])))
theorem mt_append : MtM X "list.append" rAppend := by
  intro pins s σ H x vs v us Q I rx rv h
  obtain ⟨l, xs, y, rfl, rfl, hH, hz, q⟩ := h
  cases rx
  obtain ⟨u, rfl, ru⟩ := rv.one
  obtain ⟨z, its, n, r, hl, e⟩ := I.lstM hH
  refine call_meets F.slot_list_append ⟨_, e, rfl⟩ F.entry_list_append (F.args_list_append_2 _ _) (PySem.list_append l its.toArray n u (by rw [List.size_toArray]; lia)) ⟨e, ?_⟩
  refine ⟨.non, _, I.lset (its' := its ++ [u]) hH e (by simp) (r.append (.cons ru .nil)) ?_, rfl, q⟩
  rw [List.length_append, List.length_singleton]
  lia
noncomputable def rExtend : V → List V → Hp → VK → Prop := fun x vs H Q => ∃ l b xs zs, x = .ref l ∧ vs = [.ref b] ∧ H l = some (.lst xs) ∧ H b = some (.lst zs) ∧ xs.length + zs.length ≤ sizeLine ∧ Q .non (upd H l (.lst (xs ++ zs)))
theorem mt_extend : MtM X "list.extend" rExtend := by
  intro pins s σ H x vs v us Q I rx rv h
  obtain ⟨l, b, xs, zs, rfl, rfl, hH, hB, hz, q⟩ := h
  cases rx
  obtain ⟨u, rfl, ru⟩ := rv.one
  cases ru
  obtain ⟨z, its, n, r, hl, e⟩ := I.lstM hH
  obtain ⟨z2, its2, n2, r2, hl2, e2⟩ := I.lstM hB
  have hsz : its.toArray.size + its2.toArray.size ≤ sizeLine := by rw [List.size_toArray, List.size_toArray]; lia
  have hlong : ¬ (!its.toArray.isEmpty && Builtin.List.listTooLong (its.toArray.size + its2.toArray.size)) = true := by
    rw [notLongL hsz, Bool.and_false]
    exact Bool.false_ne_true
  refine call_meets F.slot_list_extend ⟨_, e, rfl⟩ F.entry_list_extend (F.args_list_extend_2 _ _)
    (AutoSeq1.list_extend_list_list_0 l its.toArray n b its2.toArray n2 hlong (by rw [List.size_toArray]; lia) (by lia)) ⟨e, e2, ?_⟩
  refine ⟨.non, _, I.lset (its' := its ++ its2) hH e (by simp) (r.append r2) ?_, rfl, q⟩
  rw [List.length_append]
  lia
noncomputable def rPop : V → List V → Hp → VK → Prop := fun x vs H Q => ∃ l xs y, x = .ref l ∧ vs = [] ∧ H l = some (.lst xs) ∧ xs[xs.length - 1]? = some y ∧ Q y (upd H l (.lst xs.dropLast))
theorem mt_pop : MtM X "list.pop" rPop := by
  intro pins s σ H x vs v us Q I rx rv h
  obtain ⟨l, xs, y, rfl, rfl, hH, hy, q⟩ := h
  cases rx
  have hus := rv.zero
  subst hus
  obtain ⟨z, its, n, r, hl, e⟩ := I.lstM hH
  obtain ⟨u, hu, ru⟩ := r.get hy
  have hy' : its.toArray[its.toArray.size - 1]? = some u := by
    show its.toArray[its.length - 1]? = some u
    rw [← Array.getElem?_toList, ← hl]
    exact hu
  refine call_meets F.slot_list_pop ⟨_, e, rfl⟩ F.entry_list_pop (F.args_list_pop_1 _) (MeetsSeq.list_pop_last l its.toArray n u hy' (by rw [List.size_toArray]; lia)) ⟨e, ?_⟩
  refine ⟨y, _, I.lset (its' := its.dropLast) hH e ?_ r.dropLast ?_, ru, q⟩
  · show its.toArray.eraseIdxIfInBounds (its.toArray.size - 1) = its.dropLast.toArray
    rw [List.size_toArray, List.eraseIdxIfInBounds_toArray, erase_last]
  · rw [List.length_dropLast]
    lia
noncomputable def rCat : R2 := fun x y H Q => ∃ l b xs zs, x = .ref l ∧ y = .ref b ∧ H l = some (.lst xs) ∧ H b = some (.lst zs) ∧ xs.length + zs.length ≤ sizeLine ∧ ∀ p, H p = none → Q (.ref p) (upd H p (.lst (xs ++ zs)))
theorem op_cat : OpR X (binaryOp .Add) rCat := by
  intro pins s σ H x y v u Q I rx ry h
  obtain ⟨l, b, xs, zs, rfl, rfl, hH, hB, hz, q⟩ := h
  cases rx
  cases ry
  obtain ⟨z, its, n, r, hl, e⟩ := I.lstM hH
  obtain ⟨z2, its2, n2, r2, hl2, e2⟩ := I.lstM hB
  refine PySem.P.add_list e e2 ?_ (by rw [List.size_toArray, List.size_toArray]; lia)
  have ea : its.toArray ++ its2.toArray = (its ++ its2).toArray := by simp
  rw [ea]
  exact ⟨.ref _, _, I.lnew (t' := s.toks) (r.append r2) (by rw [List.length_append]; lia), rfl, q _ I.fresh⟩
noncomputable def rRep : R2 := fun x y H Q => ∃ l k xs, x = .ref l ∧ y = .int k ∧ H l = some (.lst xs) ∧ -(2 ^ 63) ≤ k ∧ k < 2 ^ 63 ∧ xs.length * k.toNat ≤ sizeLine ∧
  ∀ p, H p = none → Q (.ref p) (upd H p (.lst (List.replicate k.toNat xs).flatten))
theorem len_rep {α : Type} (xs : List α) (k : Nat) : (List.replicate k xs).flatten.length = k * xs.length := by
  induction k with
  | zero => simp
  | succ k ih => rw [List.replicate_succ, List.flatten_cons, List.length_append, ih, Nat.succ_mul, Nat.add_comm]
theorem op_rep : OpR X (binaryOp .Mult) rRep := by
  intro pins s σ H x y v u Q I rx ry h
  obtain ⟨l, k, xs, rfl, rfl, hH, h1, h2, hz, q⟩ := h
  cases rx
  obtain ⟨t, rfl⟩ := ry
  obtain ⟨z, its, n, r, hl, e⟩ := I.lstM hH
  have hlen : its.toArray.size * k.toNat ≤ sizeLine := by rw [List.size_toArray, ← hl]; exact hz
  have hcap : ¬ its.toArray.size * k.toNat > (2 ^ 63 - 1) / 8 := by
    have : (sizeLine : Nat) ≤ (2 ^ 63 - 1) / 8 := by decide
    lia
  have hfit : ¬ (!Builtin.List.listFitsIndex k) = true := by
    rw [fitsIndex_both h1 h2]
    exact Bool.false_ne_true
  have hlong : ¬ Builtin.List.listTooLong (its.toArray.size * k.toNat) = true := by
    rw [notLongL hlen]
    exact Bool.false_ne_true
  have hnew : List.foldl (fun x1 x2 => x1 ++ x2) #[] (List.replicate (if its.toArray.isEmpty = true then 0 else k.toNat) its.toArray) = (List.replicate k.toNat its).flatten.toArray := by
    have f0 : ∀ m : Nat, List.foldl (fun x1 x2 => x1 ++ x2) #[] (List.replicate m its.toArray) = (List.replicate m its).flatten.toArray := fun m => by
      have := foldl_rep its m []
      rw [List.nil_append] at this
      exact this
    rw [f0]
    cases its with
    | nil => simp
    | cons a r' => rw [if_neg (by simp)]
  refine wpAny_binaryOp_repeat_ref (T := "list") (U := "int") (by decide) ⟨_, e, rfl⟩ (fun s' => typeIs_int s' k t) noFill_list_mul F.fills_int_mul F.slot_int_rmul repeat_list F.slot_int_index.lookup
    (call_meets F.slot_int_rmul (typeIs_int s k t) F.entry_int_rmul (F.args_int_rmul_2 _ _) (int___rmul___int_list k t l its.toArray n)
      ⟨e, rfl, ⟨_, e, rfl⟩, call_meets F.slot_list_mul ⟨_, e, rfl⟩ F.entry_list_mul (F.args_list_mul_2 _ _) (AutoListH.list___mul___list_int_3 l its.toArray n k t hfit hcap hlong) ⟨e, ?_⟩⟩)
  rw [hnew]
  exact ⟨.ref _, _, I.lnew (t' := s.toks) (r.rep k.toNat) (by rw [len_rep, Nat.mul_comm]; exact hz), rfl, q _ I.fresh⟩
end
section
variable {prog : Program} {w : World} {A : Around} {E : Value → Shared → Prop} {s : Shared}
end
section
variable {X : Cx}
end
end L2
namespace Att
open PySem PySem.W PySem.Calls PyProof.Rows
theorem ints_of_wellAll {P : Params} {h : Heap} : ∀ (ns : List Int) (vs : List Value), WellAll P h vs (ns.map WData.int) → IntsAre vs ns := by
  intro ns
  induction ns with
  | nil =>
    intro vs w
    rw [List.map_nil] at w
    cases w
    exact .nil
  | cons n ns ih =>
    intro vs w
    rw [List.map_cons] at w
    cases w with
    | cons a b =>
      cases a
      exact .cons _ _ (ih _ b)
theorem script_of {l : OpenLaw} {n : Nat} (hn : l.most = some n) {P : Params} {h : Heap} {args : List WData} {vals : List Value}
    (hpre : l.row.toRowW.claim.pre args = true) (hwl : WellAll P h vals args) :
    ∃ a vs ns, vals = [Value.ref a] ∧ args = [WData.list (ns.map WData.int)] ∧ h.get? a = some { cls := .type "list", data := .seq vs.toArray } ∧ IntsAre vs ns ∧ ns.length ≤ n := by
  have hsh : WShape.hasAll [] args [.list .int] = true := (pre_splitW hpre).1
  have hc : l.pre.holds [] { args := args } = true := (pre_splitW hpre).2
  obtain ⟨d, r, rfl, h1, h2⟩ := hasAllW_cons hsh
  obtain rfl := hasAllW_nil h2
  obtain ⟨xs, rfl, h3⟩ := hasW_list h1
  obtain ⟨ns, rfl⟩ := items_int h3
  have hlen : ns.length ≤ n := by
    unfold OpenLaw.pre at hc
    have h4 : (WTm.not (.lt (.lit (.int (n : Int))) (.len (.arg 0)))).holds [] { args := [.list (ns.map .int)] } = true := by
      have h4 := (holds_andW hc).1
      rw [hn] at h4
      exact h4
    have h5 := condW_of h4 (w_not (w_lt w_lit (w_len_list (w_arg rfl))))
    rw [List.length_map] at h5
    refine Nat.le_of_not_lt fun q => ?_
    have q' : (n : Int) < ((ns.length : Nat) : Int) := by lia
    first
      | (rw [decide_eq_true q'] at h5; exact absurd h5 (by decide))
      | (simp at h5; lia)
  cases hwl with
  | cons w1 w2 =>
    cases w2
    cases w1 with
    | list ho hall => exact ⟨_, _, ns, rfl, rfl, ho, ints_of_wellAll ns _ hall, hlen⟩
theorem post_true (l : OpenLaw) (args : List WData) : l.row.toRowW.claim.post args (.bool true) args = true :=
  postW_of (r := l.row.toRowW) (X := (true == true))
    (show WShape.has [] (.bool true) .bool = true by first | rfl | decide | simp [WShape.has, WShape.arms, WShape.armsAll])
    (show (WTm.eq .res (.lit (.bool true))).value [] { args := args, res := some (.bool true), after := args } = some (.bool (true == true)) from w_eq_bool (w_res rfl) w_lit) rfl
theorem attach_call {l : OpenLaw} {n : Nat} {q : Program} {loose : List Str} {XP : (Str → Option Value) → Heap → Prop} {YP : World → Heap → Prop} {d : DefRec}
    (hn : l.most = some n) (hdf : d.params.defaults = [])
    (call : ∀ (w : World) (s₀ s₁ : Shared) (mg mb : Str → Option Value) (fa : Addr) (o : Obj) (pm cd doc : Value) (a : Addr) (vs : List Value) (ns : List Int),
      Ground q loose [] XP w s₀ mg mb s₁.heap → YP w s₁.heap →
      s₁.heap.get? fa = some o → o.data = .func (docDef d.name d.params d.body d.scope pm cd doc) → s₁.heap.CodeRec cd d.name → mg d.name = some (.ref fa) →
      s₁.heap.get? a = some { cls := .type "list", data := .seq vs.toArray } → IntsAre vs ns → ns.length ≤ n → s₁.gens = #[] →
      codeAny (model l.prog w) callerA (.call (.ref fa) ⟨[.ref a], []⟩) (fun r s' => r = .ok (.ret (.bool true)) ∧ OldK s₁.heap s'.heap ∧ s'.os = s₁.os ∧ AllBare s'.gens) s₁) :
    WalkO q loose XP YP l.row.toRowW d [] (fun f vs => PySem.call f vs) := by
  intro w s₀ s₁ mg mb G Y fa o pm cd doc dV kV ho hd hcd hD hmg hg args vals as hpre hlay hrd hwl hlo
  obtain rfl : dV = .none := Dflts.none hD hdf
  obtain rfl : kV = .none := Dflts.noKw hD
  obtain ⟨a, vs, ns, rfl, rfl, hobj, hints, hlen⟩ := script_of hn hpre hwl
  refine enter_call (codeAny_mono (call w s₀ s₁ mg mb fa o pm cd doc a vs ns G Y ho (fd_plain hd) hcd hmg hobj hints hlen hg) fun r s' hq => ?_)
  obtain ⟨rfl, h2, h3, h4⟩ := hq
  exact ⟨.inl ⟨.bool true, .bool true, [], rfl, fun _ => rfl, .bool true, post_true l _, fun _ => ⟨List.Pairwise.nil, fun _ hm => (nomatch hm)⟩⟩, h2, h3, h4⟩
section
variable {prog : Program} {w : World} {A : Around} {E : Value → Shared → Prop} {s : Shared} {K : Frag}
end
end Att
namespace L2
open PySem PySem.Spec PyProof.Rows
theorem vals_ints : ∀ {vs : List Value} {ns : List Int}, IntsAre vs ns → Vals (ns.map V.int) vs
  | _, _, .nil => .nil
  | _, _, .cons n t h => .cons ⟨t, rfl⟩ (vals_ints h)
noncomputable def Only (H : Hp) : Prop := ∀ b, H b = none ∨ ∃ o xs, H b = some (.frz o (.lst xs))
theorem law_call {P : Program} {w : World} {K : PySem.W.Frag} {mg mb : Str → Option Value} {CX : CXT} {k : Nat} {fa a : Addr} {fd : FuncData} {x : Str} {sp : Sp} {s₁ : Shared} {vs : List Value} {ns : List Int}
    (KX : K.In s₁.heap) (hns : s₁.heap.Ns mainGlobals mg) (hb : s₁.heap.Ns builtinsNs mb) (hbb : ∀ x : Str, x ≠ "__name__" → mb x = bootBuiltins x) (hlim : s₁.heap.NoLimit) (hg : s₁.gens = #[])
    (ha : s₁.heap.get? a = some { cls := .type "list", data := .seq vs.toArray }) (hi : IntsAre vs ns) (hl : ns.length ≤ sizeLine) (hr : Room k callerA)
    (F : ∀ base : Heap, K.In base → base.Ns mainGlobals mg → FnOk P w K mg base CX k fa fd [x] sp) (hbind : ∀ (s : Shared) (u : Value), BindsTo s fd ⟨[u], []⟩ [(x, u)])
    (hsp : ∀ H : Hp, Only H → SqL K H a (ns.map V.int) → sp [.ref a] H (fun v _ => v = .bl true) fun _ _ _ => False)
    (hCX : ∀ H e s', CX [] H s₁ (fun _ _ _ => False) e s' → False) :
    codeAny (model P w) callerA (.call (.ref fa) ⟨[.ref a], []⟩) (fun r s' => r = .ok (.ret (.bool true)) ∧ OldK s₁.heap s'.heap ∧ s'.os = s₁.os ∧ AllBare s'.gens) s₁ := by
  have rv := vals_ints hi
  have lenV := hi.length
  -- from an abstract heap in which nothing but the script may be tracked
  have core : ∀ H : Hp, Only H → SqL K H a (ns.map V.int) → HOk P w H s₁.heap → (∀ b, H b ≠ none → b = a) → (H a ≠ none → K.lookup a = none) →
      codeAny (model P w) callerA (.call (.ref fa) ⟨[.ref a], []⟩) (fun r s' => r = .ok (.ret (.bool true)) ∧ OldK s₁.heap s'.heap ∧ s'.os = s₁.os ∧ AllBare s'.gens) s₁ := by
    intro H hO hS hok hA hK
    have base_of : ∀ {b : Addr} {o : Obj}, s₁.heap.get? b = some o → H b = none → (hidT s₁.heap H).get? b = some o := fun e n => hidT_get e n
    have noA : ∀ {b : Addr} {o : Obj} {es : Array DictEntry} {ep : Nat}, s₁.heap.get? b = some o → o.data = .dict es ep → H b = none := fun {b o es ep} e d => by
      cases q : H b with
      | none => rfl
      | some u =>
        have e' : b = a := hA b (by rw [q]; simp)
        subst e'
        rw [ha] at e; cases e
        have d' : Data.seq vs.toArray _ = Data.dict es ep := d
        cases d'
    have nsK : ∀ {b : Addr} {m : Str → Option Value}, s₁.heap.Ns b m → (hidT s₁.heap H).Ns b m := fun {b m} ⟨o, es, ep, e, d, r⟩ => ⟨o, es, ep, base_of e (noA e d), d, r⟩
    have hKb : K.In (hidT s₁.heap H) := fun b o e => base_of (KX b o e) (by
      cases q : H b with
      | none => rfl
      | some u =>
        have e' : b = a := hA b (by rw [q]; simp)
        subst e'
        rw [hK (by rw [q]; simp)] at e; cases e)
    have hM : Mod K mg (hidT s₁.heap H) := ⟨hKb, nsK hns, ⟨mb, nsK hb, hbb⟩, let ⟨mc, h1, h2⟩ := hlim; ⟨mc, nsK h1, h2⟩⟩
    have e0 : Env0 P w K mg (hidT s₁.heap H) callerA [] s₁ H := ⟨rfl, hM, fun b o e => of_hidT e, Nat.le_of_eq (hidT_size _ _), trivial, fun b hb => absurd (show b ∈ ([] : List Addr) from hb) (by simp), hok, .of_eq hg⟩
    refine codeAny_mono ((F _ hKb (nsK hns)).run callerA [] s₁ H ⟨[.ref a], []⟩ [.ref a] [.ref a] _ _ hr e0 (hbind s₁ (.ref a)) (.cons rfl .nil) (hsp H hO hS)) fun r s' h => ?_
    cases r with
    | error e => exact (hCX H e s' h).elim
    | ok fl =>
      cases fl with
      | next => exact False.elim h
      | brk => exact False.elim h
      | cont => exact False.elim h
      | ret u =>
        obtain ⟨v, H', os, bare, un, hok', r', q⟩ := h
        have q' : v = .bl true := q
        subst q'
        obtain rfl : u = Value.bool true := r'
        refine ⟨rfl, OldK.of_keep fun b o e => ?_, os, bare⟩
        cases q : H b with
        | none => exact un.keep b o e q (by intro z; exact absurd (show b ∈ ([] : List Addr) from z) (by simp)) (by simp)
        | some u =>
          rcases hO b with z | ⟨ob, xs, z⟩
          · rw [q] at z; cases z
          · have z2 := un.frzs b ob _ z
            obtain ⟨e1, _⟩ := hok b _ z
            obtain ⟨e2, _⟩ := hok' b _ z2
            rw [e] at e1; cases e1
            exact e2
  cases hk : K.lookup a with
  | some o =>
    -- the script is one of the module's own objects
    have e := KX a o hk
    rw [ha] at e
    cases e
    refine core (fun _ => none) (fun _ => .inl rfl) (.inr ⟨_, vs.toArray, _, hk, rfl, rfl, rfl, by rw [List.size_toArray, lenV]; exact hl, by simpa using rv⟩) (fun b u z => by have z' : (none : Option HO) = some u := z; cases z') (fun b z => absurd rfl z) fun z => absurd rfl z
  | none =>
    refine core (fun b => if b = a then some (.frz { cls := .type "list", data := .seq vs.toArray } (.lst (ns.map V.int))) else none) (fun b => ?_) (.inl (.inr ⟨{ cls := .type "list", data := .seq vs.toArray }, if_pos rfl⟩)) (fun b u z => ?_) (fun b z => ?_) fun _ => hk
    · by_cases hb : b = a
      · exact .inr ⟨_, _, if_pos hb⟩
      · exact .inl (if_neg hb)
    · by_cases hb : b = a
      · have z' := (if_pos hb).symm.trans z
        cases z'
        subst hb
        exact ⟨ha, by rw [List.length_map]; exact hl, vs, _, rv, ha⟩
      · have z' := (if_neg hb).symm.trans z
        cases z'
    · by_cases hb : b = a
      · exact hb
      · exact absurd (if_neg hb) z
end L2
namespace L2
open PySem PySem.Spec PyProof.Rows
theorem walk_of {l : PySem.W.OpenLaw} {n k : Nat} {q : Program} {loose : List Str} {XP : (Str → Option Value) → Heap → Prop} {YP : World → Heap → Prop} {d : DefRec} {K : Params → PySem.W.Frag} {CX : World → CXT} {sp : World → Sp} {x : Str}
    (hn : l.most = some n) (hn2 : n ≤ sizeLine) (hdf : d.params.defaults = []) (hr : Room k callerA)
    (hY : ∀ (w : World) (h : Heap), YP w h → (K w.params).In h)
    (F : ∀ (w : World) (mg : Str → Option Value) (fa : Addr) (h : Heap), (K w.params).In h → h.Ns mainGlobals mg → mg d.name = some (.ref fa) →
      ∃ fd : FuncData, (∀ (s : Shared) (u : Value), BindsTo s fd ⟨[u], []⟩ [(x, u)]) ∧
        ∀ base : Heap, (K w.params).In base → base.Ns mainGlobals mg → FnOk l.prog w (K w.params) mg base (CX w) k fa fd [x] (sp w))
    (hsp : ∀ (w : World) (H : Hp) (a : Addr) (ns : List Int), ns.length ≤ n → Only H → SqL (K w.params) H a (ns.map V.int) → sp w [.ref a] H (fun v _ => v = .bl true) fun _ _ _ => False)
    (hCX : ∀ (w : World) (H : Hp) (s : Shared) (e : Value) (s' : Shared), CX w [] H s (fun _ _ _ => False) e s' → False) :
    PySem.W.WalkO q loose XP YP l.row.toRowW d [] (fun f vs => PySem.call f vs) := by
  refine Att.attach_call hn hdf fun w s₀ s₁ mg mb fa o pm cd doc a vs ns G Y ho hd hcd hmg hobj hints hlen hg => ?_
  have KX := hY w _ Y
  obtain ⟨fd, hb, hF⟩ := F w mg fa _ KX G.T.g hmg
  exact law_call KX G.T.g G.T.b G.T.builtins G.T.nolimit hg hobj hints (Nat.le_trans hlen hn2) hr hF hb (fun H hO hS => hsp w H a ns hlen hO hS) fun H e s' => hCX w H s₁ e s'
end L2
namespace L2
open PySem PySem.Spec PyProof.Rows
noncomputable def defArgs (s : Stmt) : Arguments := match s with
  | .FunctionDef _ a _ _ _ _ _ _ _ _ => a
  | _ => { posonlyargs := [], args := [], vararg := none, kwonlyargs := [], kw_defaults := [], kwarg := none, defaults := [] }
noncomputable def defBody (s : Stmt) : List Stmt := match s with
  | .FunctionDef _ _ b _ _ _ _ _ _ _ => b
  | _ => []
noncomputable def defScope (s : Stmt) : Scope := match s with
  | .FunctionDef _ _ _ _ _ _ sc _ _ _ => sc
  | _ => { kind := .function, names := [], isGenerator := false, isCoroutine := false }
noncomputable abbrev CX0 : CXT := fun _ _ _ _ _ _ => False
noncomputable abbrev E0 : XK := fun _ _ _ => False
theorem pass0 {X : Cx} : Passes CX0 X E0 := fun _ _ _ _ _ _ _ h => h.elim
structure Fun (K : PySem.W.Frag) (x qual : Str) (st : Stmt) (f : Addr) (fd : FuncData) : Prop where
  ex : ∃ (oc : Value) (od : Option Addr) (kV doc pm : Value) (an : Option Addr) (cdv ct : Value) (osl : Array (Option Value)),
    fd = PySem.W.fnOf x qual (defArgs st) (defBody st) (defScope st) .none kV doc pm an cdv ct ∧ K.lookup f = some ⟨oc, od, .func fd, osl⟩ ∧ PySem.W.codeIn K cdv qual = true
  kp : PySem.W.keepIn K (.ref f) = true
section
variable {P : Program} {w : World} {K : PySem.W.Frag} {mg : Str → Option Value} {base : Heap}
theorem Fun.ok {x qual : Str} {st : Stmt} {f : Addr} {fd : FuncData} {N ps : List Str} {k : Nat} {sp : Sp} (F : Fun K x qual st f fd) (S : FnScope N ps (defScope st)) (len : ∀ vs H Q E, sp vs H Q E → vs.length = ps.length)
    (hbody : ∀ (cdv : Value) (A : Around) (outer : List Env) (s : Shared) (H : Hp) (vs : List V) (Q : VK) (E : XK), Room k (A.deeper (envOfC qual (defScope st) s.heap.objs.size f cdv)) → sp vs H Q E →
      ∃ t, PSs (cxOf CX0 P w K mg base N qual (defScope st) f cdv A outer s H E).nox (defBody st) t ∧ t { nx := fun _ H' => Q .non H', rt := Q } (start N vs) H) : FnOk P w K mg base CX0 (k + 1) f fd ps sp := by
  obtain ⟨oc, od, kV, doc, pm, an, cdv, ct, osl, rfl, lk, hcd⟩ := F.ex
  refine fn_of lk hcd S len fun A outer s H vs Q E hr hsp => ?_
  obtain ⟨t, h, q⟩ := hbody cdv A outer s H vs Q E hr hsp
  exact ⟨t, h.nox, q⟩
theorem Fun.binds {x qual : Str} {st : Stmt} {f : Addr} {fd : FuncData} {ps : List Str} (F : Fun K x qual st f fd)
    (h : ∀ (kV doc pm : Value) (an : Option Addr) (cdv ct : Value) (us : List Value), us.length = ps.length → bindArgs (PySem.W.fnOf x qual (defArgs st) (defBody st) (defScope st) .none kV doc pm an cdv ct) ⟨us, []⟩ = pure (ps.zip us)) : Binds K fd ps [] := by
  obtain ⟨oc, od, kV, doc, pm, an, cdv, ct, osl, rfl, lk, hcd⟩ := F.ex
  exact .all (h kV doc pm an cdv ct)
theorem fun_mk {x qual : Str} {st : Stmt} {f : Addr} {oc : Value} {od an : Option Addr} {osl : Array (Option Value)} {kV doc pm cdv ct : Value} (l : K.lookup f = some ⟨oc, od, .func (PySem.W.fnOf x qual (defArgs st) (defBody st) (defScope st) .none kV doc pm an cdv ct), osl⟩)
    (c : PySem.W.codeIn K cdv qual = true) (k : PySem.W.keepIn K (.ref f) = true) : Fun K x qual st f (PySem.W.fnOf x qual (defArgs st) (defBody st) (defScope st) .none kV doc pm an cdv ct) := ⟨⟨oc, od, kV, doc, pm, an, cdv, ct, osl, rfl, l, c⟩, k⟩
end
section
variable {X : Cx}
end
theorem iteF {A B : Prop} (h : B) : if false = true then A else B := by
  rw [if_neg Bool.false_ne_true]
  exact h
theorem iteT {A B : Prop} (h : A) : if true = true then A else B := by
  rw [if_pos rfl]
  exact h
theorem ite2 {c A B : Prop} [Decidable c] (h1 : c → A) (h2 : ¬ c → B) : if c then A else B := by
  by_cases h : c
  · rw [if_pos h]
    exact h1 h
  · rw [if_neg h]
    exact h2 h
noncomputable def Same (H H' : Hp) : Prop := ∀ b o, H b = some o → H' b = some o
theorem Same.refl (H : Hp) : Same H H := fun _ _ h => h
theorem Same.trans {H H1 H2 : Hp} (a : Same H H1) (b : Same H1 H2) : Same H H2 := fun c o h => b c o (a c o h)
theorem Same.free {H H' : Hp} (e : Same H H') {l : Addr} (h : H' l = Option.none) : H l = Option.none := by
  cases q : H l with
  | none => rfl
  | some o =>
    rw [e l o q] at h
    cases h
theorem Same.seq {K : PySem.W.Frag} {H H' : Hp} {a : Addr} {xs : List V} (e : Same H H') (h : SqL K H a xs) : SqL K H' a xs := by
  rcases h with (h | ⟨o, h⟩) | h
  · exact .inl (.inl (e _ _ h))
  · exact .inl (.inr ⟨o, e _ _ h⟩)
  · exact .inr h
end L2
namespace L2
open PySem PySem.Spec PyProof.Rows
section
variable {X : Cx}
end
section
variable {κ : Type} [DecidableEq κ]
end
end L2
namespace L3
open PySem PySem.Spec PyProof.Rows L2
noncomputable abbrev St := L2.St
theorem same_upd {B H : Hp} {l : Addr} {o : HO} (h : Same B H) (n : B l = none) : Same B (upd H l o) := fun b u e => by
  rw [upd_ne (ne_of_none e n)]; exact h b u e
theorem same_new {H : Hp} {l : Addr} {o : HO} (n : H l = none) : Same H (upd H l o) := same_upd (Same.refl H) n
noncomputable def New (H : Hp) (o : HO) (Q : VK) : Prop := ∀ p H', H p = none → Same H H' → H' p = some o → (∀ b, b ≠ p → H' b = H b) → Q (.ref p) H'
theorem New.at {H : Hp} {o : HO} {Q : VK} (h : New H o Q) {p : Addr} (n : H p = none) : Q (.ref p) (upd H p o) := h p _ n (same_new n) upd_same fun b hb => upd_ne hb
noncomputable def clOf (env : Env) : List (Str × NameKind) → List (Str × Addr) → List (Str × Addr)
  | [], cs => cs
  | (n, k) :: r, cs => clOf env r (if (k == NameKind.free) = true then (n, ((env.cells.lookup n).getD 0)) :: cs else cs)
theorem clOf_run {env : Env} : ∀ (l : List (Str × NameKind)) (cs : List (Str × Addr)), (∀ y ∈ l, y.2 = .free → ∃ c, env.cells.lookup y.1 = some c) →
    (forIn l cs fun (x : Str × NameKind) (r : List (Str × Addr)) => (match x with
      | (name, kind) => if (kind == NameKind.free) = true then do let a ← cellOf env name; pure (ForInStep.yield ((name, a) :: r)) else pure (ForInStep.yield r) : Sem (ForInStep (List (Str × Addr))))) = (pure (clOf env l cs) : Sem _)
  | [], cs, _ => by rw [List.forIn_nil]; rfl
  | (n, k) :: r, cs, h => by
    rw [List.forIn_cons]
    have hr := fun cs' => clOf_run r cs' fun y hy => h y (List.mem_cons_of_mem _ hy)
    by_cases hk : (k == NameKind.free) = true
    · obtain ⟨c, hc⟩ := h (n, k) List.mem_cons_self (by simpa using hk)
      have hc : env.cells.lookup n = some c := hc
      simp only [hk, if_true, cellOf, hc, pure_bind, clOf, Option.getD_some]
      exact hr _
    · have hk : (k == NameKind.free) = false := by simpa using hk
      simp only [hk, Bool.false_eq_true, if_false, pure_bind, clOf]
      exact hr _
theorem closure_ok {env : Env} {scope : Scope} (h : ∀ y ∈ scope.names, y.2 = .free → ∃ c, env.cells.lookup y.1 = some c) : closureFor scope env = pure (clOf env scope.names []) := by
  unfold closureFor
  have e := clOf_run scope.names [] h
  first
    | exact e
    | (simp only [bind_pure_comp, id_map'] ; exact e)
    | (rw [show (do let cs ← _; return cs) = _ from bind_pure _]; exact e)
    | (simp; simpa using e)
theorem clOf_sub {env : Env} : ∀ (l : List (Str × NameKind)) (cs : List (Str × Addr)), (∀ y ∈ l, y.2 = .free → ∃ c, env.cells.lookup y.1 = some c) → (∀ p ∈ cs, env.cells.lookup p.1 = some p.2) →
    ∀ p ∈ clOf env l cs, env.cells.lookup p.1 = some p.2
  | [], cs, _, hc => hc
  | (n, k) :: r, cs, h, hc => by
    refine clOf_sub r _ (fun y hy => h y (List.mem_cons_of_mem _ hy)) ?_
    by_cases hk : (k == NameKind.free) = true
    · obtain ⟨c, e⟩ := h (n, k) List.mem_cons_self (by simpa using hk)
      have e : env.cells.lookup n = some c := e
      rw [if_pos hk]
      intro p hp
      rcases List.mem_cons.mp hp with rfl | hp
      · show env.cells.lookup n = some ((env.cells.lookup n).getD 0)
        rw [e]; rfl
      · exact hc p hp
    · rw [if_neg hk]; exact hc
theorem clOf_keep {env : Env} : ∀ (l : List (Str × NameKind)) (cs : List (Str × Addr)) (p : Str × Addr), p ∈ cs → p ∈ clOf env l cs
  | [], cs, p, h => h
  | (n, k) :: r, cs, p, h => by
    refine clOf_keep r _ p ?_
    split
    · exact List.mem_cons_of_mem _ h
    · exact h
theorem clOf_has {env : Env} : ∀ (l : List (Str × NameKind)) (cs : List (Str × Addr)) (x : Str), (x, NameKind.free) ∈ l → ∃ c, (x, c) ∈ clOf env l cs
  | (n, k) :: r, cs, x, h => by
    rcases List.mem_cons.mp h with h | h
    · have e1 : x = n := congrArg Prod.fst h
      have e2 : NameKind.free = k := congrArg Prod.snd h
      subst e1 e2
      refine ⟨(env.cells.lookup x).getD 0, clOf_keep r _ (x, _) ?_⟩
      rw [if_pos (by simp)]
      exact List.mem_cons_self
    · exact clOf_has r _ x h
theorem lookup_of_mem {α : Type} : ∀ {l : List (Str × α)} {x : Str} {c : α}, (x, c) ∈ l → ∃ d, l.lookup x = some d
  | (n, v) :: r, x, c, h => by
    by_cases e : x == n
    · exact ⟨v, by simp [List.lookup_cons, e]⟩
    · rcases List.mem_cons.mp h with h | h
      · cases h; exact absurd (by simp) e
      · obtain ⟨d, hd⟩ := lookup_of_mem h
        exact ⟨d, by simp [List.lookup_cons, e, hd]⟩
noncomputable def csOk (sc : Scope) (NX N' : List Str) (cs : List (Option Nat)) (scope : Scope) : Bool :=
  (scope.kind == .function) && (scope.names.all fun y => y.2 != .cell) && (scope.names.all fun y => y.2 != .local || scope.names.lookup y.1 == some .local) &&
  (scope.names.all fun y => y.2 != .free || (sc.names.lookup y.1 == some .cell || sc.names.lookup y.1 == some .free)) &&
  decide (cs.length = N'.length) &&
  ((List.range cs.length).all fun j => match cs[j]? with
    | some (some i) => (match N'[j]? with | some x => decide (NX[i]? = some x) && (scope.names.lookup x == some .free) | none => false)
    | _ => true)
structure CsOk (sc : Scope) (NX N' : List Str) (cs : List (Option Nat)) (scope : Scope) : Prop where
  kind : scope.kind = .function
  nocell : ∀ y ∈ scope.names, y.2 ≠ .cell
  names : ∀ y ∈ scope.names, y.2 = .local → scope.names.lookup y.1 = some .local
  free : ∀ y ∈ scope.names, y.2 = .free → sc.names.lookup y.1 = some .cell ∨ sc.names.lookup y.1 = some .free
  len : cs.length = N'.length
  capt : ∀ (j i : Nat) (x : Str), cs[j]? = some (some i) → N'[j]? = some x → NX[i]? = some x ∧ scope.names.lookup x = some .free
theorem CsOk.of {sc : Scope} {NX N' : List Str} {cs : List (Option Nat)} {scope : Scope} (h : csOk sc NX N' cs scope = true) : CsOk sc NX N' cs scope := by
  unfold csOk at h
  simp only [Bool.and_eq_true] at h
  obtain ⟨⟨⟨⟨⟨h1, h2⟩, h3⟩, h4⟩, h5⟩, h6⟩ := h
  refine ⟨by simpa using h1, fun y hy => ?_, fun y hy e => ?_, fun y hy e => ?_, of_decide_eq_true h5, fun j i x e1 e2 => ?_⟩
  · have := List.all_eq_true.mp h2 y hy; simpa using this
  · have := List.all_eq_true.mp h3 y hy; simpa [e] using this
  · have := List.all_eq_true.mp h4 y hy; simpa [e] using this
  · have hj : j < cs.length := (List.getElem?_eq_some_iff.mp e1).1
    have := List.all_eq_true.mp h6 j (List.mem_range.mpr hj)
    rw [e1, e2] at this
    simpa using this
noncomputable def cxC (X : Cx) (N' : List Str) (scope : Scope) (fp : List Addr) (s3 : Shared) (H3 : Hp) : Cx where
  prog := X.prog
  w := X.w
  K := X.K
  mg := X.mg
  base := X.base
  A := X.A
  N := N'
  s₀ := s3
  H₀ := H3
  env := compEnvC scope (clOf X.env scope.names []) s3.heap.objs.size X.env
  outer := X.stack
  stack := X.stack
  ex := fp
  fn := fun _ => false
  calm := X.calm
  pn := []
  xe := fun _ _ => False
noncomputable def cst (cs : List (Option Nat)) (σ : St) : St := cs.map fun o => match o with | some i => (σ[i]?).getD none | none => none
noncomputable def PTs (X : Cx) (ifs : List Expr) (t : TT) : Prop :=
  ∀ (pins : List (Addr × Obj)) (s : Shared) (σ : St) (H : Hp) (Q : Bool → Hp → Prop), Inv X pins σ H s → t σ H Q →
    wpAny (model X.prog X.w) X.A (forIn ifs true fun c r => if r = true then do let ok ← isTrue c X.env (eval c X.env); pure (ForInStep.yield ok) else pure (ForInStep.yield r)) (TP X pins σ Q) X.xe s
noncomputable def tT0 : TT := fun _ H Q => Q true H
theorem pts_nil {X : Cx} : PTs X [] tT0 := fun pins s σ H Q I h => wpAny_tests_nil ⟨H, I, h⟩
theorem pts_one {X : Cx} {c : Expr} {t : TT} (h : PT X c t) : PTs X [c] t := fun pins s σ H Q I q => wpAny_tests_one (h pins s σ H Q I q)
noncomputable def CompW (J : It) (g : TG) (tt : TT) (te : TE) (acc : Addr) (σ0 : St) (H0 : Hp) (Q : Hp → Prop) : Prop :=
  ∃ W : Nat → Nat → St → Hp → Prop, (∃ m, W 0 m σ0 H0) ∧ ∀ i m σ H, W i m σ H →
    (J.stop i H ∧ Q H) ∨ (J.go i H ∧ ∀ x H1, J.yld i H x H1 → g x σ H1 fun σ2 H2 => tt σ2 H2 fun b H3 =>
      if b = true then te σ2 H3 fun y H4 => ∃ ys, H4 acc = some (.lst ys) ∧ ys.length < sizeLine ∧ ∃ m', m' < m ∧ W (i + 1) m' σ2 (upd H4 acc (.lst (ys ++ [y])))
      else ∃ m', m' < m ∧ W (i + 1) m' σ2 H3)
noncomputable def tComp (cs : List (Option Nat)) (wi : TI) (g : TG) (tt : TT) (te : TE) : TE := fun σ H Q => wi σ H fun J H1 => ∀ acc, H1 acc = none → CompW J g tt te acc (cst cs σ) (upd H1 acc (.lst [])) (Q (.ref acc))
section
variable {prog : Program} {w : World} {A : Around} {R : Result → Shared → Prop} {s : Shared}
theorem compLoop_any {elt target iter : Expr} {ifs : List Expr} {scope : Scope} {pos : Pos} {it acc : Value} {env : Env} (I : Nat → Shared → Prop)
    (turn : ∀ n s, I n s → wpAny (model prog w) A (pyNext it) (fun r s₁ => match r with
      | none => R (.ok .next) s₁
      | some v => wpAny (model prog w) A (letOwnedTupleGo target it v) (fun _ s₁ => wpAny (model prog w) A (assign target env v) (fun _ s₂ =>
          wpAny (model prog w) A (forIn ifs true fun c r => if r = true then do let ok ← isTrue c env (eval c env); pure (ForInStep.yield ok) else pure (ForInStep.yield r)) (fun ok s₃ =>
            if ok = true then wpAny (model prog w) A (eval elt env) (fun x s₄ =>
              wpAny (model prog w) A (call (.builtin "list.append") [acc, x]) (fun _ s₅ => ∃ m, m < n ∧ I m s₅) (notedBy (model prog w) A env fun e s' => R (.error e) s') s₄) (notedBy (model prog w) A env fun e s' => R (.error e) s') s₃
            else ∃ m, m < n ∧ I m s₃) (notedBy (model prog w) A env fun e s' => R (.error e) s') s₂) (notedBy (model prog w) A env fun e s' => R (.error e) s') s₁) (notedBy (model prog w) A env fun e s' => R (.error e) s') s₁) (notedBy (model prog w) A env fun e s' => R (.error e) s') s)
    (n : Nat) (h : I n s) :
    codeAny (model prog w) A (.compLoop (.ListComp elt [⟨target, iter, ifs, 0⟩] scope pos) 0 it acc env) R s := by
  refine codeAny_loop rfl I (fun n s hI => ?_) n h
  show wpAny _ A ((compTurn (.ListComp elt [⟨target, iter, ifs, 0⟩] scope pos) 0 it acc env).onRaise (fun x => do noteFrame x env; theTreesLotGoes x)) _ _ s
  refine wpAny_noted ?_
  rw [compTurn_list]
  refine wpAny_bind (wpAny_standAt (wpAny_bind (wpAny_mono (turn n s hI) (fun r s₁ h₁ => ?_) fun _ _ h' => h')))
  cases r with
  | none => exact wpAny_pure h₁
  | some v =>
    refine wpAny_bind (wpAny_mono h₁ (fun _ s₁ h₁ => ?_) fun _ _ h' => h')
    refine wpAny_bind (wpAny_mono h₁ (fun _ s₂ h₂ => wpAny_bind (wpAny_mono h₂ (fun ok s₃ h₃ => ?_) fun _ _ h' => h')) fun _ _ h' => h')
    cases ok with
    | false => exact wpAny_pure ⟨rfl, h₃⟩
    | true =>
      exact wpAny_bind (wpAny_bind (wpAny_mono h₃ (fun x s₄ h₄ => wpAny_bind (wpAny_mono h₄ (fun _ s₅ h₅ => wpAny_pure (wpAny_pure ⟨rfl, h₅⟩)) fun _ _ h' => h')) fun _ _ h' => h'))
end
section
variable {X : Cx} {pins : List (Addr × Obj)} {σ : St} {H2 : Hp} {s2 : Shared}
theorem relabel_free {scope : Scope} {env : Env} : ∀ {l : List (Str × NameKind)} {x : Str} {k : NameKind},
    (l.map fun (n, k) => if (k == NameKind.free && env.scope.kind == .function && env.kindOf n == some .cell) then (n, NameKind.cell) else (n, k)).lookup x = some k →
    l.lookup x = some k ∨ (l.lookup x = some .free ∧ k = .cell)
  | [], x, k, h => by simp at h
  | (n, k') :: r, x, k, h => by
    have ih := @relabel_free scope env r x k
    rw [List.map_cons] at h
    by_cases hx : (x == n) = true
    · by_cases hc : (k' == NameKind.free && env.scope.kind == .function && env.kindOf n == some .cell) = true
      · simp only [hc, if_true, List.lookup_cons, hx] at h
        have e : k' = .free := by simp only [Bool.and_eq_true] at hc; simpa using hc.1.1
        simp only [List.lookup_cons, hx]
        exact .inr ⟨by rw [e], (Option.some.inj h).symm⟩
      · simp only [hc, if_false, List.lookup_cons, hx, Bool.false_eq_true] at h
        simp only [List.lookup_cons, hx]
        exact .inl h
    · have hx : (x == n) = false := by simpa using hx
      by_cases hc : (k' == NameKind.free && env.scope.kind == .function && env.kindOf n == some .cell) = true
      · simp only [hc, if_true, List.lookup_cons, hx] at h
        simp only [List.lookup_cons, hx]
        exact ih h
      · simp only [hc, if_false, List.lookup_cons, hx, Bool.false_eq_true] at h
        simp only [List.lookup_cons, hx]
        exact ih h
noncomputable abbrev cxX (X : Cx) (N' : List Str) (scope : Scope) (fp : List Addr) (s3 : Shared) (H3 : Hp) (xe : Value → Shared → Prop) : Cx := { cxC X N' scope fp s3 H3 with xe := xe }
theorem comp_coreX {XE : Shared → Hp → Value → Shared → Prop} {elt target iter : Expr} {ifs : List Expr} {scope : Scope} {pos : Pos} {E : Value → Shared → Prop} {N' : List Str} {cs : List (Option Nat)} {it : Addr} {fp : List Addr} {tn : Nat → Heap → Prop} {J : It} {g : TG} {tt : TT} {te : TE} {Q : VK}
    {RR : Value → Addr → Result → Shared → Prop} (hc : X.calm = true) (F : CsOk X.env.scope X.N N' cs scope)
    (hg : ∀ s3 H3, PG (cxC X N' scope fp s3 H3) target g) (ht : ∀ s3 H3, PTs (cxC X N' scope fp s3 H3) ifs tt) (he : ∀ s3 H3, PE (cxX X N' scope fp s3 H3 (XE s3 H3)) elt te)
    (I2 : Inv X pins σ H2 s2) (T : Turn X.prog X.w X.K target J fp it tn) (st2 : tn 0 s2.heap) (f2 : ∀ b ∈ fp, FpOk X pins H2 b)
    (hW : ∀ acc, H2 acc = none → CompW J g tt te acc (cst cs σ) (upd H2 acc (.lst [])) (Q (.ref acc)))
    (hRR : ∀ D C s' H' m, Inv X pins σ H' s' → s'.heap.Ns C m → H' C = none → C ≠ X.env.locals → X.s₀.heap.objs.size ≤ C → (∀ x c, X.env.cells.lookup x = some c → c ≠ C) → (∀ p ∈ X.pn ++ pins, p.1 ≠ C) → Q (.ref D) H' → RR (.ref D) C (.ok .next) s')
    (hER : ∀ (D : Addr) (s3 : Shared) (H3 : Hp), Inv X pins σ H3 s3 → (∀ b ∈ fp, (b ∈ X.ex ∨ X.s₀.heap.objs.size ≤ b) ∧ b ≠ X.env.locals ∧ (∀ x c, X.env.cells.lookup x = some c → c ≠ b) ∧ ∀ p ∈ X.pn ++ pins, p.1 ≠ b) → ∀ e s', XE s3 H3 e s' → notedBy (model X.prog X.w) X.A (cxC X N' scope fp s3 H3).env (fun e s'' => RR (.ref D) s3.heap.objs.size (.error e) s'') e s') :
    wpAny (model X.prog X.w) X.A (newList []) (fun acc s₃ => wpAny (model X.prog X.w) X.A (newFunctionEnv scope X.env.globals (clOf X.env scope.names []) [] X.env.qual none .none (some X.env)) (fun cenv s₄ =>
      codeAny (model X.prog X.w) X.A (.compStart (.ListComp elt [⟨target, iter, ifs, 0⟩] scope pos) 0 (.ref it) acc { cenv with scope := relabel scope X.env }) (RR acc cenv.locals) s₄) E s₃) E s2 := by
  refine wpAny_newObj_type (wpAny_newFunctionEnv F.nocell (by intro y hy; simp at hy) (fun h₁ hns₁ hsb₁ => ?_) F.kind)
  dsimp only at hns₁ hsb₁ ⊢
  have hfree : ∀ y ∈ scope.names, y.2 = .free → ∃ c, X.env.cells.lookup y.1 = some c := fun y hy e => I2.ok.has y.1 (F.free y hy e)
  have sub : ∀ x c, (clOf X.env scope.names []).lookup x = some c → X.env.cells.lookup x = some c := fun x c e => clOf_sub scope.names [] hfree (by simp) (x, c) (PySem.mem_of_lookup e)
  obtain ⟨W, ⟨m0, w0⟩, turn⟩ := hW s2.heap.objs.size I2.fresh
  have I3 := I2.lnew (t' := s2.toks) (its := []) (ys := []) .nil (Nat.zero_le _)
  generalize hs3 : ({ s2 with heap := s2.heap.push { cls := .type "list", data := .seq ([] : List Value).toArray }, toks := s2.toks } : Shared) = s3 at I3
  generalize hH3 : upd H2 s2.heap.objs.size (HO.lst []) = H3 at I3 w0
  have e3 : s2.heap.push { cls := .type "list", dict := none, data := .seq ([] : List Value).toArray } = s3.heap := by rw [← hs3]
  rw [e3] at hns₁ hsb₁ ⊢
  have old : ∀ b o, s3.heap.get? b = some o → h₁.get? b = some o := fun b o e => hsb₁.extBut b o (Nat.ne_of_lt (Heap.lt_size e)) (Heap.get?_push_of_some _ e)
  have sz3 : s3.heap.objs.size = s2.heap.objs.size + 1 := by rw [← hs3]; exact Heap.size_push ..
  have fpn3 : ∀ b ∈ fp, H3 b = none := fun b hb => by
    obtain ⟨o, ho, _⟩ := T.obj 0 _ st2 b hb
    rw [← hH3, upd_ne (Nat.ne_of_lt (Heap.lt_size ho))]
    exact (f2 b hb).1
  have fplt : ∀ b ∈ fp, b < s3.heap.objs.size := fun b hb => by
    obtain ⟨o, ho, _⟩ := T.obj 0 _ st2 b hb
    exact Nat.lt_of_lt_of_le (Heap.lt_size ho) (by rw [sz3]; exact Nat.le_succ _)
  -- the block's own facts
  have okC : (cxC X N' scope fp s3 H3).Ok := by
    refine ⟨I3.ok.mod, F.kind, I3.ok.glob, I3.ok.blt, Nat.le_refl _, fun x y c h1 h2 => I3.ok.inj x y c (sub x c h1) (sub y c h2), fun x hx => ?_, fun x c h => (Bool.false_ne_true h).elim, I3.ok.hd, I3.ok.frames, .inl rfl, fun b hb => ⟨Nat.ne_of_lt (fplt b hb), fun x c e => (f2 b hb).2.2.2.2.1 x c (sub x c e)⟩,
      I3.bs, Nat.le_trans I3.ok.bsz I3.sz, fun b o e hb => ?_, fun b hb z => ?_, I3.stack, I3.stkFree⟩
    · have hx : scope.names.lookup x = some .free := by
        rcases hx with hx | hx
        · rcases relabel_free (scope := scope) (env := X.env) hx with q | ⟨q, _⟩
          · exact absurd rfl (F.nocell _ (PySem.mem_of_lookup q))
          · exact q
        · rcases relabel_free (scope := scope) (env := X.env) hx with q | ⟨q, z⟩
          · exact q
          · cases z
      obtain ⟨c, hm⟩ := clOf_has (env := X.env) scope.names [] x (PySem.mem_of_lookup hx)
      exact lookup_of_mem hm
    · rcases (f2 b hb).2.2.2.1 with z | z
      · exact I3.ok.noex b o e z
      · have h1 := Heap.lt_size e
        have h2 := I3.ok.bsz
        exact absurd (Nat.lt_of_lt_of_le h1 h2) (Nat.not_lt.mpr z)
    · rcases List.mem_cons.mp (I3.stkSub b z) with q | q
      · exact (f2 b hb).2.1 q
      · exact (f2 b hb).2.2.1 q
  have σlen : (cst cs σ).length = N'.length := by unfold cst; rw [List.length_map]; exact F.len
  have IC : Inv (cxC X N' scope fp s3 H3) [] (cst cs σ) H3 { s3 with heap := h₁, toks := s3.toks + ([] : List (Str × Value)).length } := by
    refine ⟨okC, rfl, I3.bare, Un.kept old, ⟨_, hns₁, fun j x v e1 e2 e3 => ?_⟩, fun x c e => ?_, I3.fresh, fun x c e => I3.freeC x c (sub x c e), fun p hp => absurd (show p ∈ ([] : List (Addr × Obj)) from hp) (by simp), I3.hok.kept old, σlen⟩
    · -- a name of the block that has a value is an outer one
      obtain ⟨i, hi, hv⟩ : ∃ i, cs[j]? = some (some i) ∧ σ[i]? = some (some v) := by
        unfold cst at e2
        rw [List.getElem?_map] at e2
        cases q : cs[j]? with
        | none => rw [q] at e2; cases e2
        | some o =>
          rw [q] at e2
          cases o with
          | none => cases e2
          | some i =>
            refine ⟨i, rfl, ?_⟩
            have e2 : (σ[i]?).getD none = some v := Option.some.inj e2
            cases q2 : σ[i]? with
            | none => rw [q2] at e2; cases e2
            | some z => rw [q2] at e2; exact congrArg some e2
      obtain ⟨hN, hf⟩ := F.capt j i x hi e1
      obtain ⟨m, hn, hl⟩ := I3.loc
      have hk := F.free _ (PySem.mem_of_lookup hf) rfl
      obtain ⟨u, r, l⟩ := hl i x v hN hv (.inr hk)
      refine ⟨u, r, .inr ⟨?_, ?_⟩⟩
      · rcases e3 with e3 | e3 | e3
        · rcases relabel_free (scope := scope) (env := X.env) e3 with q | ⟨_, z⟩
          · rw [hf] at q; cases q
          · cases z
        · exact .inl e3
        · exact .inr e3
      · rcases l with ⟨z, _⟩ | ⟨_, c, hc', hcell⟩
        · have z : X.env.scope.names.lookup x = some .local := z
          rcases hk with k | k <;> (rw [k] at z; cases z)
        · obtain ⟨c2, hm⟩ := clOf_has (env := X.env) scope.names [] x (PySem.mem_of_lookup hf)
          obtain ⟨c3, h3⟩ := lookup_of_mem hm
          have e4 := sub x c3 h3
          rw [hc'] at e4
          cases e4
          obtain ⟨o, ho, hd⟩ := hcell
          exact ⟨c, h3, o, old _ _ ho, hd⟩
    · obtain ⟨v, o, ho, hd⟩ := I3.cell x c (sub x c e)
      exact ⟨v, o, old _ _ ho, hd⟩
  have st4 : tn 0 h₁ := T.keep 0 s2.heap h₁ st2 fun b hb o e => old b o (by rw [← e3]; exact Heap.get?_push_of_some _ e)
  -- what stays true of the iterator's objects through the loop
  have stat : ∀ {H' : Hp}, (∀ b ∈ fp, H' b = none) → ∀ b ∈ fp, FpOk (cxC X N' scope fp s3 H3) [] H' b := fun hn b hb =>
    ⟨hn b hb, Nat.ne_of_lt (fplt b hb), okC.exfs b hb, .inl hb, fun x c e => (f2 b hb).2.2.2.2.1 x c (sub x c e), fun p hp => absurd (show p ∈ ([] : List (Addr × Obj)) from hp) (by simp)⟩
  have noE : ∀ {α : Type} {t : Sem α} {Q' : α → Shared → Prop} {E' : Value → Shared → Prop} {s' : Shared}, wpAny (model X.prog X.w) X.A t Q' (fun _ _ => False) s' → wpAny (model X.prog X.w) X.A t Q' E' s' := fun h => wpAny_mono h (fun _ _ q => q) fun _ _ f => f.elim
  -- behind the loop
  have fin : ∀ {σ' : St} {H' : Hp} {s' : Shared}, Inv (cxC X N' scope fp s3 H3) [] σ' H' s' → Q (.ref s2.heap.objs.size) H' → RR (.ref s2.heap.objs.size) s3.heap.objs.size (.ok .next) s' := fun {σ' H' s'} I' q => by
    obtain ⟨m, hn, _⟩ := I'.loc
    refine hRR _ _ s' H' m (I3.call' I'.os I'.base I'.hok I'.bare fun b hb => ?_) hn I'.free (Nat.ne_of_gt I3.lt) I3.sz (fun x c e z => ?_) (fun p hp z => ?_) q
    · obtain ⟨_, g1, _, g3, g4, g5⟩ := f2 b hb
      exact ⟨g3, g1, g4, g5⟩
    · obtain ⟨v, o, ho, _⟩ := I3.cell x c e
      exact absurd (Heap.lt_size ho) (by rw [z]; exact Nat.lt_irrefl _)
    · exact absurd (Heap.lt_size (I3.pin p hp).1) (by rw [z]; exact Nat.lt_irrefl _)
  have loop : codeAny (model X.prog X.w) X.A (.compLoop (.ListComp elt [⟨target, iter, ifs, 0⟩] scope pos) 0 (.ref it) (.ref s2.heap.objs.size) (cxC X N' scope fp s3 H3).env)
      (RR (.ref s2.heap.objs.size) s3.heap.objs.size) { s3 with heap := h₁, toks := s3.toks + ([] : List (Str × Value)).length } := by
    refine compLoop_any (fun n s' => ∃ i σ' H', Inv (cxC X N' scope fp s3 H3) [] σ' H' s' ∧ tn i s'.heap ∧ (∀ b ∈ fp, H' b = none) ∧ W i n σ' H') ?_ m0 ⟨0, _, H3, IC, st4, fpn3, w0⟩
    rintro n s4 ⟨i, σ4, H4, I4, st4, fr4, w4⟩
    rcases turn i n σ4 H4 w4 with ⟨stop, qn⟩ | ⟨go, step⟩
    · refine thn (T.done (cxC X N' scope fp s3 H3) rfl rfl rfl hc i [] s4 σ4 H4 _ I4 (stat fr4) st4 stop) fun r s5 hh => ?_
      obtain ⟨hr, I5⟩ := hh
      subst hr
      exact fin I5 qn
    · refine thn (T.item (cxC X N' scope fp s3 H3) rfl rfl rfl hc i [] s4 σ4 H4 _ I4 (stat fr4) st4 go) fun r s5 hh => ?_
      obtain ⟨u, hr, h5⟩ := hh
      subst hr
      refine thn h5 fun _ s6 hh => ?_
      obtain ⟨x, H6, I6, r6, y6, st6, fr6⟩ := hh
      have I6' := I6.pinned (stat fr6) (T.obj _ _ st6)
      have keepT : ∀ {σ7 : St} {H7 : Hp} {s7 : Shared}, Inv (cxC X N' scope fp s3 H3) ([] ++ pinsAt fp s6.heap) σ7 H7 s7 → tn (i + 1) s7.heap ∧ ∀ b ∈ fp, H7 b = none := fun {σ7 H7 s7} I7 =>
        ⟨T.keep _ _ _ st6 fun b hb o e => (I7.pin (b, o) (List.mem_append_right _ (List.mem_append_right _ (mem_pinsAt hb e)))).1, fun b hb => by
          obtain ⟨o, e, d⟩ := T.obj _ _ st6 b hb
          exact (I7.pin (b, o) (List.mem_append_right _ (List.mem_append_right _ (mem_pinsAt hb e)))).2.1⟩
      refine noE (thn (hg s3 H3 _ s6 σ4 H6 x u _ I6' r6 (step x H6 y6)) fun _ s7 hh => ?_)
      obtain ⟨σ7, H7, I7, q7⟩ := hh
      refine noE (thn (ht s3 H3 _ s7 σ7 H7 _ I7 q7) fun b s8 hh => ?_)
      obtain ⟨H8, I8, q8⟩ := hh
      cases b with
      | false =>
        rw [if_neg Bool.false_ne_true] at q8 ⊢
        obtain ⟨m', hm, w8⟩ := q8
        obtain ⟨t8, n8⟩ := keepT I8
        exact ⟨m', hm, i + 1, σ7, H8, I8.unpinned, t8, n8, w8⟩
      | true =>
        rw [if_pos rfl] at q8 ⊢
        refine wpAny_mono (he s3 H3 _ s8 σ7 H8 _ (I8.wish _) q8) (fun v s9 ⟨y, H9, I9, r9, ys, hacc, hz, m', hm, w9⟩ => ?_) fun e s' z => hER _ s3 H3 I3 (fun b hb => ?_) e s' z
        rotate_left
        · obtain ⟨_, g1, _, g3, g4, g5⟩ := f2 b hb
          exact ⟨g3, g1, g4, g5⟩
        have I9 : Inv (cxC X N' scope fp s3 H3) _ σ7 H9 s9 := I9.unwish
        refine noE (thn (mt_append (X := cxC X N' scope fp s3 H3) _ s9 σ7 H9 (.ref s2.heap.objs.size) [y] (.ref s2.heap.objs.size) [v] (fun _ H' => W (i + 1) m' σ7 H') I9 rfl (.cons r9 .nil) ⟨_, ys, y, rfl, rfl, hacc, hz, w9⟩) fun _ s10 hh => ?_)
        obtain ⟨_, H10, I10, _, w10⟩ := hh
        obtain ⟨t10, n10⟩ := keepT I10
        exact ⟨m', hm, i + 1, σ7, H10, I10.unpinned, t10, n10, w10⟩
  have e5 : ({ s2 with heap := h₁, toks := s2.toks + ([] : List (Str × Value)).length } : Shared) = { s3 with heap := h₁, toks := s3.toks + ([] : List (Str × Value)).length } := by rw [← hs3]
  rw [e5]
  exact codeAny_compStart_list loop (T.self _ 0 _ _ _ st4 loop)
theorem comp_core {elt target iter : Expr} {ifs : List Expr} {scope : Scope} {pos : Pos} {E : Value → Shared → Prop} {N' : List Str} {cs : List (Option Nat)} {it : Addr} {fp : List Addr} {tn : Nat → Heap → Prop} {J : It} {g : TG} {tt : TT} {te : TE} {Q : VK}
    {RR : Value → Addr → Result → Shared → Prop} (hc : X.calm = true) (F : CsOk X.env.scope X.N N' cs scope)
    (hg : ∀ s3 H3, PG (cxC X N' scope fp s3 H3) target g) (ht : ∀ s3 H3, PTs (cxC X N' scope fp s3 H3) ifs tt) (he : ∀ s3 H3, PE (cxC X N' scope fp s3 H3) elt te)
    (I2 : Inv X pins σ H2 s2) (T : Turn X.prog X.w X.K target J fp it tn) (st2 : tn 0 s2.heap) (f2 : ∀ b ∈ fp, FpOk X pins H2 b)
    (hW : ∀ acc, H2 acc = none → CompW J g tt te acc (cst cs σ) (upd H2 acc (.lst [])) (Q (.ref acc)))
    (hRR : ∀ D C s' H' m, Inv X pins σ H' s' → s'.heap.Ns C m → H' C = none → C ≠ X.env.locals → X.s₀.heap.objs.size ≤ C → (∀ x c, X.env.cells.lookup x = some c → c ≠ C) → (∀ p ∈ X.pn ++ pins, p.1 ≠ C) → Q (.ref D) H' → RR (.ref D) C (.ok .next) s') :
    wpAny (model X.prog X.w) X.A (newList []) (fun acc s₃ => wpAny (model X.prog X.w) X.A (newFunctionEnv scope X.env.globals (clOf X.env scope.names []) [] X.env.qual none .none (some X.env)) (fun cenv s₄ =>
      codeAny (model X.prog X.w) X.A (.compStart (.ListComp elt [⟨target, iter, ifs, 0⟩] scope pos) 0 (.ref it) acc { cenv with scope := relabel scope X.env }) (RR acc cenv.locals) s₄) E s₃) E s2 :=
  comp_coreX (XE := fun s3 H3 => (cxC X N' scope fp s3 H3).xe) hc F hg ht he I2 T st2 f2 hW hRR fun _ _ _ _ _ _ _ z => False.elim z
end
section
variable {X : Cx}
theorem pe_comp {elt target iter : Expr} {ifs : List Expr} {scope : Scope} {pos : Pos} {wi : TI} {g : TG} {tt : TT} {te : TE} {sc : Scope} {NX : List Str} (N' : List Str) (cs : List (Option Nat)) (hc : X.calm = true)
    (hi : PI X target iter wi) (hg : ∀ fp s3 H3, PG (cxC X N' scope fp s3 H3) target g) (ht : ∀ fp s3 H3, PTs (cxC X N' scope fp s3 H3) ifs tt) (he : ∀ fp s3 H3, PE (cxC X N' scope fp s3 H3) elt te)
    (hsc : X.env.scope = sc) (hN : X.N = NX) (hcs : csOk sc NX N' cs scope = true) (hs : ∀ x, foldedSetIterable iter X.env x = pure x := by intro _; rfl) :
    PE X (.ListComp elt [⟨target, iter, ifs, 0⟩] scope pos) (tComp cs wi g tt te) := by
  intro pins s σ H Q I h
  subst hsc hN
  have F := CsOk.of hcs
  rw [eval_ListComp]
  refine wpAny_comprehension_free (use := none) rfl hs (closure_ok fun y hy e => I.ok.has y.1 (F.free y hy e)) F.kind F.names ?_
  refine thn (hi pins s σ H _ I h) fun v s1 h1 => thn h1 fun itv s2 h2 => ?_
  obtain ⟨it, fp, tn, J, H2, rfl, I2, T, st2, f2, hW⟩ := h2
  refine comp_core (RR := fun acc C => compPost (model X.prog X.w) X.A X.xe none (EP X pins σ Q) acc C) (Q := Q) hc F (hg fp) (ht fp) (he fp) I2 T st2 f2 hW ?_
  intro D C s' H' m I' hn hC hL hsz hcell hpin q
  refine ⟨m, hn, fun h' hs' => ⟨.ref D, H', ?_, rfl, q⟩⟩
  exact I'.turned (t' := s'.toks) (it := C) (fun b o hb e => (hs'.2 b hb).trans e) hC hL (.inr hsz) hcell hpin
end
end L3
namespace L3
open PySem PySem.Spec PyProof.Rows L2
section
variable {X : Cx}
noncomputable def tTupN (t : TA) : TE := fun σ H Q => t σ H fun xs H1 => xs.length ≤ sizeLine ∧ New H1 (.tup xs) Q
noncomputable def tLstN (t : TA) : TE := fun σ H Q => t σ H fun xs H1 => xs.length ≤ sizeLine ∧ New H1 (.lst xs) Q
theorem pe_tupN {es : List Expr} {t : TA} {x1} {pos : Pos} (h : PA X es t) : PE X (.Tuple es x1 pos) (tTupN t) := by
  intro pins s σ H Q I hq
  refine wpAny_Tuple_spliced (thn (h pos pins s σ H _ I hq) fun us s1 ⟨xs, H1, I1, r, z, q⟩ => ⟨by rw [← r.length]; exact z, ?_⟩)
  refine ⟨.ref s1.heap.objs.size, upd H1 s1.heap.objs.size (.tup xs), I1.laid (t' := s1.toks) (fun b u e => Heap.get?_push_of_some _ e) (Nat.le_refl _) ?_, rfl, q.at I1.fresh⟩
  exact ⟨z, us, r, ⟨_, Heap.get?_push_size _ rfl, rfl, _, rfl⟩⟩
theorem pe_lstN {es : List Expr} {t : TA} {pos : Pos} (h : PA X es t) : PE X (.List es pos) (tLstN t) := by
  intro pins s σ H Q I hq
  refine wpAny_List_spliced (thn (h pos pins s σ H _ I hq) fun us s1 ⟨xs, H1, I1, r, z, q⟩ => ⟨by rw [← r.length]; exact z, ?_⟩)
  refine ⟨.ref s1.heap.objs.size, upd H1 s1.heap.objs.size (.lst xs), I1.laid (t' := s1.toks) (fun b u e => Heap.get?_push_of_some _ e) (Nat.le_refl _) ?_, rfl, q.at I1.fresh⟩
  exact ⟨z, us, 0, r, Heap.get?_push_size _ rfl⟩
noncomputable def rSlN (K : PySem.W.Frag) : V → Option Int → Option Int → Hp → VK → Prop := fun x lo hi H Q => ∃ a xs, x = .ref a ∧ SqL K H a xs ∧ New H (.lst (cutV xs lo hi)) Q
theorem sl_listN : SlR X (rSlN X.K) := by
  intro pins s σ H x v vl vu lo hi sl Q I rx hs pl pu h
  obtain ⟨a, xs, e, hx, q⟩ := h
  exact sl_list pins s σ H x v vl vu lo hi sl Q I rx hs pl pu ⟨a, xs, e, hx, fun p n => q.at n⟩
noncomputable def tDictN : TE := fun _ H Q => New H (.dK []) Q
theorem pe_dictN {pos : Pos} : PE X (.Dict [] [] pos) tDictN := fun pins s σ H Q I h => pe_dnewK pins s σ H Q I fun p n => h.at n
theorem call_isi : CallR X (.builtin "isinstance") (fun xs H Q => ∃ x T t b, xs = [x, .ty T] ∧ TyOf X.K H x t ∧ PySem.W.kitOne X.K t (.type T) = some b ∧ Q (.bl b) H) := by
  intro pins s σ H xs us Q I rv h
  obtain ⟨x, T, t, b, rfl, ty, e, q⟩ := h
  obtain ⟨u, c, rfl, rx, rc⟩ := vals2 rv
  cases (show c = Value.type T from rc)
  exact isinst_ok I rx ty e fun tk => ⟨.bl b, H, I.tok tk, rfl, q⟩
end
end L3
namespace L3
open PySem PySem.Spec PyProof.Rows L2
inductive D where
  | non | bl (b : Bool) | int (i : Int) | str (x : Str) | tup (xs : List D) | lst (xs : List D) | emp
mutual
noncomputable def D.dep : D → Nat
  | .tup xs => deps xs + 1
  | .lst xs => deps xs + 1
  | _ => 0
noncomputable def deps : List D → Nat
  | [] => 0
  | x :: r => max x.dep (deps r)
end
mutual
/-- what == tells -/
noncomputable def D.eqv : D → D → Bool
  | .non, .non => true
  | .bl a, .bl b => a == b
  | .bl a, .int j => (if a then 1 else 0) == j
  | .int i, .bl b => i == (if b then 1 else 0)
  | .int i, .int j => i == j
  | .str x, .str y => x == y
  | .tup xs, .tup ys => eqvs xs ys
  | .lst xs, .lst ys => eqvs xs ys
  | .emp, .emp => true
  | _, _ => false
noncomputable def eqvs : List D → List D → Bool
  | [], [] => true
  | x :: r, y :: q => x.eqv y && eqvs r q
  | _, _ => false
end
mutual
theorem D.eqv_refl : ∀ d : D, d.eqv d = true
  | .non => rfl
  | .bl b => by simp [D.eqv]
  | .int i => by simp [D.eqv]
  | .str x => by simp [D.eqv]
  | .tup xs => by rw [D.eqv]; exact eqvs_refl xs
  | .lst xs => by rw [D.eqv]; exact eqvs_refl xs
  | .emp => rfl
theorem eqvs_refl : ∀ xs : List D, eqvs xs xs = true
  | [] => rfl
  | x :: r => by rw [eqvs, D.eqv_refl x, eqvs_refl r]; rfl
end
mutual
/-- no bool and no dict in it -/
noncomputable def D.pure : D → Bool
  | .bl _ => false
  | .emp => false
  | .tup xs => pures xs
  | .lst xs => pures xs
  | _ => true
noncomputable def pures : List D → Bool
  | [] => true
  | x :: r => x.pure && pures r
end
mutual
theorem D.eqv_iff : ∀ d e : D, d.pure = true → e.pure = true → d.eqv e = true → d = e
  | .non, e, _, pe, h => by cases e <;> simp_all [D.eqv]
  | .bl b, e, pd, _, _ => by simp [D.pure] at pd
  | .int i, e, _, pe, h => by cases e <;> simp_all [D.eqv, D.pure]
  | .str x, e, _, pe, h => by cases e <;> simp_all [D.eqv]
  | .tup xs, e, pd, pe, h => by
    cases e with
    | tup ys => rw [D.eqv] at h; rw [D.pure] at pd pe; rw [eqvs_iff xs ys pd pe h]
    | _ => simp [D.eqv] at h
  | .lst xs, e, pd, pe, h => by
    cases e with
    | lst ys => rw [D.eqv] at h; rw [D.pure] at pd pe; rw [eqvs_iff xs ys pd pe h]
    | _ => simp [D.eqv] at h
  | .emp, e, _, pe, h => by cases e <;> simp_all [D.eqv]
theorem eqvs_iff : ∀ xs ys : List D, pures xs = true → pures ys = true → eqvs xs ys = true → xs = ys
  | [], ys, _, _, h => by cases ys <;> simp_all [eqvs]
  | x :: r, [], _, _, h => by simp [eqvs] at h
  | x :: r, y :: q, px, py, h => by
    rw [pures, Bool.and_eq_true] at px py
    rw [eqvs, Bool.and_eq_true] at h
    rw [D.eqv_iff x y px.1 py.1 h.1, eqvs_iff r q px.2 py.2 h.2]
end
theorem eqv_ne {d e : D} (pd : d.pure = true) (pe : e.pure = true) (h : d ≠ e) : d.eqv e = false := by
  cases q : d.eqv e with
  | false => rfl
  | true => exact absurd (D.eqv_iff d e pd pe q) h
mutual
inductive Rep (H : Hp) : V → D → Prop
  | non : Rep H .non .non
  | bl (b : Bool) : Rep H (.bl b) (.bl b)
  | int (i : Int) : Rep H (.int i) (.int i)
  | str (x : Str) : Rep H (.str x) (.str x)
  | tup {a : Addr} {vs : List V} {xs : List D} : H a = some (.tup vs) → Reps H vs xs → Rep H (.ref a) (.tup xs)
  | lst {a : Addr} {vs : List V} {xs : List D} : H a = some (.lst vs) → Reps H vs xs → Rep H (.ref a) (.lst xs)
  | emp {a : Addr} : H a = some (.dK []) → Rep H (.ref a) .emp
inductive Reps (H : Hp) : List V → List D → Prop
  | nil : Reps H [] []
  | cons {v : V} {d : D} {vs : List V} {ds : List D} : Rep H v d → Reps H vs ds → Reps H (v :: vs) (d :: ds)
end
mutual
theorem Rep.mono {H H' : Hp} {v : V} {d : D} : Rep H v d → Same H H' → Rep H' v d
  | .non => fun _ => .non
  | .bl b => fun _ => .bl b
  | .int i => fun _ => .int i
  | .str x => fun _ => .str x
  | .tup e r => fun s => .tup (s _ _ e) (r.mono s)
  | .lst e r => fun s => .lst (s _ _ e) (r.mono s)
  | .emp e => fun s => .emp (s _ _ e)
theorem Reps.mono {H H' : Hp} {vs : List V} {ds : List D} : Reps H vs ds → Same H H' → Reps H' vs ds
  | .nil => fun _ => .nil
  | .cons h r => fun s => .cons (h.mono s) (r.mono s)
end
theorem Reps.length {H : Hp} : ∀ {vs : List V} {ds : List D}, Reps H vs ds → vs.length = ds.length
  | _, _, .nil => rfl
  | _, _, .cons _ r => by rw [List.length_cons, List.length_cons, r.length]
theorem Reps.get {H : Hp} : ∀ {vs : List V} {ds : List D} {i : Nat} {v : V}, Reps H vs ds → vs[i]? = some v → ∃ d, ds[i]? = some d ∧ Rep H v d
  | _, _, i, v, .nil, e => by simp at e
  | _, _, 0, v, .cons h r, e => by simp at e; subst e; exact ⟨_, rfl, h⟩
  | _, _, i + 1, v, .cons h r, e => by
    obtain ⟨d, h1, h2⟩ := r.get (i := i) (v := v) (by simpa using e)
    exact ⟨d, by simpa using h1, h2⟩
theorem Reps.ints {H : Hp} : ∀ ns : List Int, Reps H (ns.map V.int) (ns.map D.int)
  | [] => .nil
  | n :: r => .cons (.int n) (Reps.ints r)
noncomputable def rm (p : Addr) (H : Hp) : Hp := fun b => if b = p then none else H b
theorem rm_self {p : Addr} {H : Hp} : rm p H p = none := by unfold rm; rw [if_pos rfl]
theorem rm_ne {p b : Addr} {H : Hp} (h : b ≠ p) : rm p H b = H b := by unfold rm; rw [if_neg h]
theorem rm_same {p : Addr} {H : Hp} : Same (rm p H) H := fun b o e => by
  by_cases h : b = p
  · rw [h, rm_self] at e; cases e
  · rwa [rm_ne h] at e
theorem rm_mono {p : Addr} {H H' : Hp} (s : Same (rm p H) H') : Same (rm p H) (rm p H') := fun b o e => by
  by_cases h : b = p
  · rw [h, rm_self] at e; cases e
  · rw [rm_ne h]; exact s b o e
theorem rm_of {p : Addr} {H H' : Hp} (s : Same H H') (n : H p = none) : Same H (rm p H') := fun b o e => by
  rw [rm_ne (ne_of_none e n)]; exact s b o e
theorem rm_upd {p : Addr} {H : Hp} {o : HO} : rm p (upd H p o) = rm p H := by
  funext b; unfold rm upd; split <;> rfl
section
variable {X : Cx} {pins : List (Addr × Obj)} {σ : St} {H : Hp} {s : Shared}
theorem get_toArray {us : List Value} {j : Nat} (h : j < us.toArray.size) {v : Value} (e : us[j]? = some v) : us.toArray[j] = v := by
  obtain ⟨h', q⟩ := List.getElem?_eq_some_iff.mp e
  simpa using q
theorem range_all_eqvs (f : Nat → Bool) : ∀ (xs ys : List D), xs.length = ys.length → (∀ (j : Nat) x y, xs[j]? = some x → ys[j]? = some y → f j = x.eqv y) → (List.range xs.length).all f = eqvs xs ys := by
  intro xs
  induction xs generalizing f with
  | nil => intro ys hl _; cases ys with
    | nil => rfl
    | cons _ _ => simp at hl
  | cons x r ih =>
    intro ys hl h
    cases ys with
    | nil => simp at hl
    | cons y q =>
      rw [List.length_cons, List.range_succ_eq_map, List.all_cons, List.all_map, eqvs, h 0 x y rfl rfl]
      congr 1
      exact ih (fun j => f (j + 1)) q (by simpa using hl) fun j x' y' e1 e2 => h (j + 1) x' y' (by simpa using e1) (by simpa using e2)
theorem eqvs_len : ∀ (xs ys : List D), xs.length ≠ ys.length → eqvs xs ys = false
  | [], [], h => absurd rfl h
  | [], _ :: _, _ => rfl
  | _ :: _, [], _ => rfl
  | x :: r, y :: q, h => by rw [eqvs, eqvs_len r q (by simpa using h), Bool.and_false]
noncomputable def ansAt (xs ys : List D) (j : Nat) : Bool := match xs[j]?, ys[j]? with
  | some x, some y => x.eqv y
  | _, _ => true
theorem range_min_eqvs (xs ys : List D) : ((List.range (min xs.length ys.length)).all (ansAt xs ys) && xs.length == ys.length) = eqvs xs ys := by
  by_cases h : xs.length = ys.length
  · rw [← h, Nat.min_self, beq_self_eq_true, Bool.and_true]
    refine range_all_eqvs _ xs ys h fun j x y e1 e2 => ?_
    unfold ansAt; rw [e1, e2]
  · rw [eqvs_len xs ys h, beq_eq_false_iff_ne.mpr h, Bool.and_false]
theorem IsTup.isT {h : Heap} {a : Addr} {its : Array Value} (t : IsTup h a its) : h.IsTuple a its := by
  first
  | exact t
  | (obtain ⟨o, e, c, n, d⟩ := t; exact ⟨o, e, c, n, d⟩)
  | (obtain ⟨o, e, c, n, d, _⟩ := t; exact ⟨o, e, c, n, d⟩)
mutual
theorem Rep.inj {H : Hp} {v : V} {d e : D} : Rep H v d → Rep H v e → d = e
  | .non, h => by cases h; rfl
  | .bl _, h => by cases h; rfl
  | .int _, h => by cases h; rfl
  | .str _, h => by cases h; rfl
  | .tup e r, h => by
    cases h with
    | tup e' r' => rw [e] at e'; cases e'; rw [r.inj r']
    | lst e' r' => rw [e] at e'; cases e'
    | emp e' => rw [e] at e'; cases e'
  | .lst e r, h => by
    cases h with
    | tup e' r' => rw [e] at e'; cases e'
    | lst e' r' => rw [e] at e'; cases e'; rw [r.inj r']
    | emp e' => rw [e] at e'; cases e'
  | .emp e, h => by
    cases h with
    | tup e' r' => rw [e] at e'; cases e'
    | lst e' r' => rw [e] at e'; cases e'
    | emp e' => rfl
theorem Reps.inj {H : Hp} {vs : List V} {ds es : List D} : Reps H vs ds → Reps H vs es → ds = es
  | .nil, h => by cases h; rfl
  | .cons h r, g => by
    cases g with
    | cons h' r' => rw [h.inj h', r.inj r']
end
theorem dep_get : ∀ {xs : List D} {j : Nat} {x : D}, xs[j]? = some x → x.dep ≤ deps xs
  | [], j, x, e => by simp at e
  | y :: r, 0, x, e => by simp at e; subst e; rw [deps]; lia
  | y :: r, j + 1, x, e => by
    have := dep_get (xs := r) (j := j) (x := x) (by simpa using e)
    rw [deps]; lia
theorem pure_get : ∀ {xs : List D} {j : Nat} {x : D}, pures xs = true → xs[j]? = some x → x.pure = true
  | [], j, x, _, e => by simp at e
  | y :: r, 0, x, h, e => by simp at e; subst e; rw [pures, Bool.and_eq_true] at h; exact h.1
  | y :: r, j + 1, x, h, e => by rw [pures, Bool.and_eq_true] at h; exact pure_get (j := j) h.2 (by simpa using e)
theorem tupAt {P : Program} {w : World} (hok : HOk P w H s.heap) {a : Addr} {vs : List V} (e : H a = some (.tup vs)) : ∃ its : List Value, Vals vs its ∧ s.heap.IsTuple a its.toArray := by
  obtain ⟨_, its, r, t⟩ := hok a _ e
  exact ⟨its, r, IsTup.isT t⟩
theorem lstAt {P : Program} {w : World} (hok : HOk P w H s.heap) {a : Addr} {vs : List V} (e : H a = some (.lst vs)) : ∃ its : List Value, Vals vs its ∧ s.heap.IsList a its.toArray := by
  obtain ⟨_, its, n, r, t⟩ := hok a _ e
  exact ⟨its, r, _, t, rfl, n, rfl⟩
theorem items_ans {A : Around} {vs ws : List V} {xs ys : List D} {us zs : List Value} (rx : Reps H vs xs) (ry : Reps H ws ys) (qx : Vals vs us) (qy : Vals ws zs)
    (ih : ∀ (j : Nat) x y v w u z, xs[j]? = some x → ys[j]? = some y → Rep H v x → Rep H w y → RelV v u → RelV w z → SeqAt.EqAt A s u z (x.eqv y)) :
    ∀ j (h1 : j < us.toArray.size) (h2 : j < zs.toArray.size), SeqAt.EqAt A s us.toArray[j] zs.toArray[j] (ansAt xs ys j) := fun j h1 h2 => by
  have l1 := qx.length
  have l2 := qy.length
  rw [List.size_toArray] at h1 h2
  have g1 : vs[j]? = some (vs[j]'(by lia)) := List.getElem?_eq_getElem (by lia)
  have g2 : ws[j]? = some (ws[j]'(by lia)) := List.getElem?_eq_getElem (by lia)
  obtain ⟨u, hu, ru⟩ := qx.get g1
  obtain ⟨z, hz, rz⟩ := qy.get g2
  obtain ⟨x, hx, px⟩ := rx.get g1
  obtain ⟨y, hy, py⟩ := ry.get g2
  rw [get_toArray _ hu, get_toArray _ hz]
  unfold ansAt
  rw [hx, hy]
  exact ih j x y _ _ u z hx hy px py ru rz
theorem in1_units (A : Around) : A.in1.units = A.units + 1 := rfl
theorem eqAt_n {P : Program} {w : World} (hok : HOk P w H s.heap) : ∀ (n : Nat) (A : Around) {v w : V} {d e : D} {u z : Value}, d.dep ≤ n → Rep H v d → Rep H w e → RelV v u → RelV w z → d.pure = true → e.pure = true → A.units + n < cLine →
    SeqAt.EqAt A s u z (d.eqv e) := by
  intro n
  induction n with
  | zero =>
    intro A v w d e u z hd rd re ru rz pd pe hu
    cases rd with
    | bl _ => simp [D.pure] at pd
    | emp _ => simp [D.pure] at pd
    | tup _ _ => simp [D.dep] at hd
    | lst _ _ => simp [D.dep] at hd
    | non =>
      cases ru
      cases re with
      | bl _ => simp [D.pure] at pe
      | emp _ => simp [D.pure] at pe
      | non => cases rz; exact SeqAt.EqAt.same .none
      | int j => obtain ⟨t, rfl⟩ := rz; exact SeqAt.EqAt.none_int j t
      | str y => obtain ⟨t, rfl⟩ := rz; exact SeqAt.EqAt.none_str y t
      | tup ea _ => cases rz; obtain ⟨its, _, ht⟩ := tupAt hok ea; exact SeqAt.EqAt.none_tuple ht (by lia)
      | lst ea _ => cases rz; obtain ⟨its, _, ht⟩ := lstAt hok ea; exact SeqAt.EqAt.none_list ht (by lia)
    | int i =>
      obtain ⟨t, rfl⟩ := ru
      cases re with
      | bl _ => simp [D.pure] at pe
      | emp _ => simp [D.pure] at pe
      | non => cases rz; exact SeqAt.EqAt.int_none i t
      | int j => obtain ⟨t', rfl⟩ := rz; exact SeqAt.EqAt.int_int i t j t'
      | str y => obtain ⟨t', rfl⟩ := rz; exact SeqAt.EqAt.int_str i t y t'
      | tup ea _ => cases rz; obtain ⟨its, _, ht⟩ := tupAt hok ea; exact SeqAt.EqAt.int_tuple i t ht (by lia)
      | lst ea _ => cases rz; obtain ⟨its, _, ht⟩ := lstAt hok ea; exact SeqAt.EqAt.int_list i t ht (by lia)
    | str x =>
      obtain ⟨t, rfl⟩ := ru
      cases re with
      | bl _ => simp [D.pure] at pe
      | emp _ => simp [D.pure] at pe
      | non => cases rz; exact SeqAt.EqAt.str_none x t
      | int j => obtain ⟨t', rfl⟩ := rz; exact SeqAt.EqAt.str_int x t j t'
      | str y => obtain ⟨t', rfl⟩ := rz; exact SeqAt.EqAt.str_str x t y t'
      | tup ea _ => cases rz; obtain ⟨its, _, ht⟩ := tupAt hok ea; exact SeqAt.EqAt.str_tuple x t ht (by lia)
      | lst ea _ => cases rz; obtain ⟨its, _, ht⟩ := lstAt hok ea; exact SeqAt.EqAt.str_list x t ht (by lia)
  | succ n ih =>
    intro A v w d e u z hd rd re ru rz pd pe hu
    by_cases h0 : d.dep ≤ n
    · exact ih A h0 rd re ru rz pd pe (by lia)
    · have ihn : ∀ {xs ys : List D}, deps xs ≤ n → pures xs = true → pures ys = true → ∀ (j : Nat) x y v w u z, xs[j]? = some x → ys[j]? = some y → Rep H v x → Rep H w y → RelV v u → RelV w z → SeqAt.EqAt A.in1 s u z (x.eqv y) :=
        fun {xs ys} hx px py j x y v w u z e1 e2 r1 r2 q1 q2 => ih A.in1 (Nat.le_trans (dep_get e1) hx) r1 r2 q1 q2 (pure_get px e1) (pure_get py e2) (by rw [in1_units]; lia)
      cases rd with
      | non => simp [D.dep] at h0
      | bl _ => simp [D.dep] at h0
      | int _ => simp [D.dep] at h0
      | str _ => simp [D.dep] at h0
      | emp _ => simp [D.dep] at h0
      | @tup a vs xs ea rs =>
        cases ru
        obtain ⟨its, qi, hi⟩ := tupAt hok ea
        rw [D.dep] at hd
        rw [D.pure] at pd
        cases re with
        | bl _ => simp [D.pure] at pe
        | emp _ => simp [D.pure] at pe
        | non => cases rz; exact SeqAt.EqAt.tuple_none hi (by lia)
        | int j => obtain ⟨t', rfl⟩ := rz; exact SeqAt.EqAt.tuple_int j t' hi (by lia)
        | str y => obtain ⟨t', rfl⟩ := rz; exact SeqAt.EqAt.tuple_str y t' hi (by lia)
        | lst eb _ => cases rz; obtain ⟨its2, _, ht⟩ := lstAt hok eb; exact SeqAt.EqAt.tuple_list hi ht (by lia)
        | @tup b ws ys eb rs2 =>
          cases rz
          rw [D.pure] at pe
          by_cases hab : a = b
          · subst hab
            rw [ea] at eb; cases eb
            rw [rs.inj rs2, D.eqv_refl]
            exact SeqAt.EqAt.same _
          · obtain ⟨its2, qj, hj⟩ := tupAt hok eb
            refine SeqAt.EqAt.of_refs hab ?_
            have q := SeqAt.RcAt.tuples (A := A) hi hj (by lia) (e := ansAt xs ys) (items_ans rs rs2 qi qj (ihn (by lia) pd pe))
            have l1 := qi.length
            have l2 := qj.length
            rw [List.size_toArray, List.size_toArray, ← l1, ← l2, rs.length, rs2.length, range_min_eqvs] at q
            rw [D.eqv]; exact q
      | @lst a vs xs ea rs =>
        cases ru
        obtain ⟨its, qi, hi⟩ := lstAt hok ea
        rw [D.dep] at hd
        rw [D.pure] at pd
        cases re with
        | bl _ => simp [D.pure] at pe
        | emp _ => simp [D.pure] at pe
        | non => cases rz; exact SeqAt.EqAt.list_none hi (by lia)
        | int j => obtain ⟨t', rfl⟩ := rz; exact SeqAt.EqAt.list_int j t' hi (by lia)
        | str y => obtain ⟨t', rfl⟩ := rz; exact SeqAt.EqAt.list_str y t' hi (by lia)
        | tup eb _ => cases rz; obtain ⟨its2, _, ht⟩ := tupAt hok eb; exact SeqAt.EqAt.list_tuple hi ht (by lia)
        | @lst b ws ys eb rs2 =>
          cases rz
          rw [D.pure] at pe
          by_cases hab : a = b
          · subst hab
            rw [ea] at eb; cases eb
            rw [rs.inj rs2, D.eqv_refl]
            exact SeqAt.EqAt.same _
          · obtain ⟨its2, qj, hj⟩ := lstAt hok eb
            refine SeqAt.EqAt.of_refs hab ?_
            have l1 := qi.length
            have l2 := qj.length
            have l3 := rs.length
            have l4 := rs2.length
            by_cases hl : xs.length = ys.length
            · have q := SeqAt.RcAt.lists (A := A) hi hj (by rw [List.size_toArray, List.size_toArray]; lia) (by lia) (e := ansAt xs ys) (items_ans rs rs2 qi qj (ihn (by lia) pd pe))
              have e1 : its.toArray.size = xs.length := by rw [List.size_toArray]; lia
              rw [e1, range_all_eqvs (ansAt xs ys) xs ys hl fun j x y e1 e2 => by unfold ansAt; rw [e1, e2]] at q
              rw [D.eqv]; exact q
            · rw [D.eqv, eqvs_len xs ys hl]
              exact SeqAt.RcAt.lists_lengths hi hj (by rw [List.size_toArray, List.size_toArray]; simp; lia) (by lia)
end
section
variable {X : Cx} {pins : List (Addr × Obj)} {σ : St} {H : Hp} {s : Shared}
theorem rcAt_rep {P : Program} {w : World} (hok : HOk P w H s.heap) (n : Nat) (A : Around) {v w : V} {d e : D} {u z : Value} (hd : d.dep ≤ n) (rd : Rep H v d) (re : Rep H w e) (ru : RelV v u) (rz : RelV w z) (pd : d.pure = true) (pe : e.pure = true) (hu : A.units + n < cLine) :
    SeqAt.RcAt A s u z (d.eqv e) ∧ SeqAt.RcNeAt A s u z (!(d.eqv e)) := by
  have ihn : ∀ {xs ys : List D}, deps xs + 1 ≤ n → pures xs = true → pures ys = true → ∀ (j : Nat) x y v w u z, xs[j]? = some x → ys[j]? = some y → Rep H v x → Rep H w y → RelV v u → RelV w z → SeqAt.EqAt A.in1 s u z (x.eqv y) :=
    fun {xs ys} hx px py j x y v w u z e1 e2 r1 r2 q1 q2 => eqAt_n hok (n - 1) A.in1 (Nat.le_trans (dep_get e1) (by lia)) r1 r2 q1 q2 (pure_get px e1) (pure_get py e2) (by rw [in1_units]; lia)
  cases rd with
  | bl _ => simp [D.pure] at pd
  | emp _ => simp [D.pure] at pd
  | non =>
    cases ru
    cases re with
    | bl _ => simp [D.pure] at pe
    | emp _ => simp [D.pure] at pe
    | non => cases rz; exact ⟨SeqAt.RcAt.none_none, SeqAt.RcNeAt.none_none⟩
    | int j => obtain ⟨t, rfl⟩ := rz; exact ⟨SeqAt.RcAt.none_int j t, SeqAt.RcNeAt.none_int j t⟩
    | str y => obtain ⟨t, rfl⟩ := rz; exact ⟨SeqAt.RcAt.none_str y t, SeqAt.RcNeAt.none_str y t⟩
    | tup ea _ => cases rz; obtain ⟨its, _, ht⟩ := tupAt hok ea; exact ⟨SeqAt.RcAt.none_tuple ht (by lia), SeqAt.RcNeAt.none_tuple ht (by lia)⟩
    | lst ea _ => cases rz; obtain ⟨its, _, ht⟩ := lstAt hok ea; exact ⟨SeqAt.RcAt.none_list ht (by lia), SeqAt.RcNeAt.none_list ht (by lia)⟩
  | int i =>
    obtain ⟨t, rfl⟩ := ru
    cases re with
    | bl _ => simp [D.pure] at pe
    | emp _ => simp [D.pure] at pe
    | non => cases rz; exact ⟨SeqAt.RcAt.int_none i t, SeqAt.RcNeAt.int_none i t⟩
    | int j => obtain ⟨t', rfl⟩ := rz; exact ⟨SeqAt.RcAt.int_int i t j t', SeqAt.RcNeAt.int_int i t j t'⟩
    | str y => obtain ⟨t', rfl⟩ := rz; exact ⟨SeqAt.RcAt.int_str i t y t', SeqAt.RcNeAt.int_str i t y t'⟩
    | tup ea _ => cases rz; obtain ⟨its, _, ht⟩ := tupAt hok ea; exact ⟨SeqAt.RcAt.int_tuple i t ht (by lia), SeqAt.RcNeAt.int_tuple i t ht (by lia)⟩
    | lst ea _ => cases rz; obtain ⟨its, _, ht⟩ := lstAt hok ea; exact ⟨SeqAt.RcAt.int_list i t ht (by lia), SeqAt.RcNeAt.int_list i t ht (by lia)⟩
  | str x =>
    obtain ⟨t, rfl⟩ := ru
    cases re with
    | bl _ => simp [D.pure] at pe
    | emp _ => simp [D.pure] at pe
    | non => cases rz; exact ⟨SeqAt.RcAt.str_none x t, SeqAt.RcNeAt.str_none x t⟩
    | int j => obtain ⟨t', rfl⟩ := rz; exact ⟨SeqAt.RcAt.str_int x t j t', SeqAt.RcNeAt.str_int x t j t'⟩
    | str y => obtain ⟨t', rfl⟩ := rz; exact ⟨SeqAt.RcAt.str_str x t y t', SeqAt.RcNeAt.str_str x t y t'⟩
    | tup ea _ => cases rz; obtain ⟨its, _, ht⟩ := tupAt hok ea; exact ⟨SeqAt.RcAt.str_tuple x t ht (by lia), SeqAt.RcNeAt.str_tuple x t ht (by lia)⟩
    | lst ea _ => cases rz; obtain ⟨its, _, ht⟩ := lstAt hok ea; exact ⟨SeqAt.RcAt.str_list x t ht (by lia), SeqAt.RcNeAt.str_list x t ht (by lia)⟩
  | @tup a vs xs ea rs =>
    cases ru
    obtain ⟨its, qi, hi⟩ := tupAt hok ea
    rw [D.dep] at hd
    rw [D.pure] at pd
    cases re with
    | bl _ => simp [D.pure] at pe
    | emp _ => simp [D.pure] at pe
    | non => cases rz; exact ⟨SeqAt.RcAt.tuple_none hi (by lia), SeqAt.RcNeAt.tuple_none hi (by lia)⟩
    | int j => obtain ⟨t', rfl⟩ := rz; exact ⟨SeqAt.RcAt.tuple_int j t' hi (by lia), SeqAt.RcNeAt.tuple_int j t' hi (by lia)⟩
    | str y => obtain ⟨t', rfl⟩ := rz; exact ⟨SeqAt.RcAt.tuple_str y t' hi (by lia), SeqAt.RcNeAt.tuple_str y t' hi (by lia)⟩
    | lst eb _ => cases rz; obtain ⟨its2, _, ht⟩ := lstAt hok eb; exact ⟨SeqAt.RcAt.tuple_list hi ht (by lia), SeqAt.RcNeAt.tuple_list hi ht (by lia)⟩
    | @tup b ws ys eb rs2 =>
      cases rz
      rw [D.pure] at pe
      obtain ⟨its2, qj, hj⟩ := tupAt hok eb
      have l1 := qi.length
      have l2 := qj.length
      have q := SeqAt.RcAt.tuples (A := A) hi hj (by lia) (e := ansAt xs ys) (items_ans rs rs2 qi qj (ihn hd pd pe))
      have q' := SeqAt.RcNeAt.tuples (A := A) hi hj (by lia) (e := ansAt xs ys) (items_ans rs rs2 qi qj (ihn hd pd pe))
      rw [List.size_toArray, List.size_toArray, ← l1, ← l2, rs.length, rs2.length, range_min_eqvs] at q q'
      rw [D.eqv]; exact ⟨q, q'⟩
  | @lst a vs xs ea rs =>
    cases ru
    obtain ⟨its, qi, hi⟩ := lstAt hok ea
    rw [D.dep] at hd
    rw [D.pure] at pd
    cases re with
    | bl _ => simp [D.pure] at pe
    | emp _ => simp [D.pure] at pe
    | non => cases rz; exact ⟨SeqAt.RcAt.list_none hi (by lia), SeqAt.RcNeAt.list_none hi (by lia)⟩
    | int j => obtain ⟨t', rfl⟩ := rz; exact ⟨SeqAt.RcAt.list_int j t' hi (by lia), SeqAt.RcNeAt.list_int j t' hi (by lia)⟩
    | str y => obtain ⟨t', rfl⟩ := rz; exact ⟨SeqAt.RcAt.list_str y t' hi (by lia), SeqAt.RcNeAt.list_str y t' hi (by lia)⟩
    | tup eb _ => cases rz; obtain ⟨its2, _, ht⟩ := tupAt hok eb; exact ⟨SeqAt.RcAt.list_tuple hi ht (by lia), SeqAt.RcNeAt.list_tuple hi ht (by lia)⟩
    | @lst b ws ys eb rs2 =>
      cases rz
      rw [D.pure] at pe
      obtain ⟨its2, qj, hj⟩ := lstAt hok eb
      have l1 := qi.length
      have l2 := qj.length
      have l3 := rs.length
      have l4 := rs2.length
      by_cases hl : xs.length = ys.length
      · have sz : its.toArray.size = its2.toArray.size := by rw [List.size_toArray, List.size_toArray]; lia
        have q := SeqAt.RcAt.lists (A := A) hi hj sz (by lia) (e := ansAt xs ys) (items_ans rs rs2 qi qj (ihn hd pd pe))
        have q' := SeqAt.RcNeAt.lists (A := A) hi hj sz (by lia) (e := ansAt xs ys) (items_ans rs rs2 qi qj (ihn hd pd pe))
        have e1 : its.toArray.size = xs.length := by rw [List.size_toArray]; lia
        rw [e1, range_all_eqvs (ansAt xs ys) xs ys hl fun j x y e1 e2 => by unfold ansAt; rw [e1, e2]] at q q'
        rw [D.eqv]; exact ⟨q, q'⟩
      · rw [D.eqv, eqvs_len xs ys hl]
        have sz : (its.toArray.size != its2.toArray.size) = true := by rw [List.size_toArray, List.size_toArray]; simp; lia
        exact ⟨SeqAt.RcAt.lists_lengths hi hj sz (by lia), SeqAt.RcNeAt.lists_lengths hi hj sz (by lia)⟩
noncomputable def rEqD (n : Nat) : R2 := fun x y H Q => ∃ d e, Rep H x d ∧ Rep H y e ∧ d.pure = true ∧ e.pure = true ∧ d.dep ≤ n ∧ Q (.bl (d.eqv e)) H
noncomputable def rNeD (n : Nat) : R2 := fun x y H Q => ∃ d e, Rep H x d ∧ Rep H y e ∧ d.pure = true ∧ e.pure = true ∧ d.dep ≤ n ∧ Q (.bl (!(d.eqv e))) H
theorem op_eqD {n : Nat} (hu : X.A.units + n < cLine) : OpR X (compareOp .Eq) (rEqD n) := by
  intro pins s σ H x y v u Q I rx ry h
  obtain ⟨d, e, rd, re, pd, pe, hd, q⟩ := h
  exact (rcAt_rep I.hok n X.A hd rd re rx ry pd pe hu).1 X.prog X.w X.xe _ ⟨.bl _, H, I, rfl, q⟩
theorem op_neD {n : Nat} (hu : X.A.units + n < cLine) : OpR X (compareOp .NotEq) (rNeD n) := by
  intro pins s σ H x y v u Q I rx ry h
  obtain ⟨d, e, rd, re, pd, pe, hd, q⟩ := h
  exact (rcAt_rep I.hok n X.A hd rd re rx ry pd pe hu).2 X.prog X.w X.xe _ ⟨.bl _, H, I, rfl, q⟩
end
end L3
namespace L3
open PySem PySem.Spec PyProof.Rows L2
section
variable {X : Cx}
noncomputable def rAddG : R2 := fun x y H Q => match x, y with
  | .int i, .int j => Q (.int (i + j)) H
  | .str a, .str b => a.length + b.length ≤ sizeLine ∧ Q (.str (a ++ b)) H
  | .ref a, .ref b => ∃ xs zs, H a = some (.lst xs) ∧ H b = some (.lst zs) ∧ xs.length + zs.length ≤ sizeLine ∧ New H (.lst (xs ++ zs)) Q
  | _, _ => False
theorem op_addG : OpR X (binaryOp .Add) rAddG := by
  intro pins s σ H x y v u Q I rx ry q
  cases x <;> cases y <;> first
    | exact False.elim q
    | exact op_add pins s σ H _ _ v u Q I rx ry ⟨_, _, rfl, rfl, q⟩
    | exact op_add_str pins s σ H _ _ v u Q I rx ry ⟨_, _, rfl, rfl, q.1, q.2⟩
    | (obtain ⟨xs, zs, h1, h2, h3, h4⟩ := q; exact op_cat pins s σ H _ _ v u Q I rx ry ⟨_, _, xs, zs, rfl, rfl, h1, h2, h3, fun p n => h4.at n⟩)
noncomputable def rEqG (n : Nat) : R2 := fun x y H Q => match x, y with
  | .int i, .int j => Q (.bl (decide (i = j))) H
  | .bl a, .bl b => Q (.bl (decide (a = b))) H
  | .str a, .str b => Q (.bl (decide (a = b))) H
  | x, y => rEqD n x y H Q
noncomputable def rNeG (n : Nat) : R2 := fun x y H Q => match x, y with
  | .int i, .int j => Q (.bl (!decide (i = j))) H
  | .bl a, .bl b => Q (.bl (!decide (a = b))) H
  | .str a, .str b => Q (.bl (!decide (a = b))) H
  | x, y => rNeD n x y H Q
theorem decI {i j : Int} : decide (V.int i = V.int j) = decide (i = j) := by simp
theorem decB {i j : Bool} : decide (V.bl i = V.bl j) = decide (i = j) := by simp
theorem decS {i j : Str} : decide (V.str i = V.str j) = decide (i = j) := by simp
theorem op_eqG {n : Nat} (hu : X.A.units + n < cLine) : OpR X (compareOp .Eq) (rEqG n) := by
  intro pins s σ H x y v u Q I rx ry q
  cases x <;> cases y <;> first
    | exact op_eqD hu pins s σ H _ _ v u Q I rx ry q
    | (refine op_eq pins s σ H _ _ v u Q I rx ry ⟨rfl, ?_⟩; rw [decI]; exact q)
    | (refine op_eq pins s σ H _ _ v u Q I rx ry ⟨rfl, ?_⟩; rw [decB]; exact q)
    | (refine op_eq pins s σ H _ _ v u Q I rx ry ⟨rfl, ?_⟩; rw [decS]; exact q)
theorem op_neG {n : Nat} (hu : X.A.units + n < cLine) : OpR X (compareOp .NotEq) (rNeG n) := by
  intro pins s σ H x y v u Q I rx ry q
  cases x <;> cases y <;> first
    | exact op_neD hu pins s σ H _ _ v u Q I rx ry q
    | (refine op_ne pins s σ H _ _ v u Q I rx ry ⟨rfl, ?_⟩; rw [decI]; exact q)
    | (refine op_ne pins s σ H _ _ v u Q I rx ry ⟨rfl, ?_⟩; rw [decB]; exact q)
    | (refine op_ne pins s σ H _ _ v u Q I rx ry ⟨rfl, ?_⟩; rw [decS]; exact q)
noncomputable def rIxG (K : PySem.W.Frag) : R2 := fun x y H Q => ∃ p xs i v, x = .ref p ∧ y = .int i ∧ (SqL K H p xs ∨ SqT K H p xs) ∧ atI xs i = some v ∧ Q v H
theorem ix_G : IxR X (rIxG X.K) := by
  intro value slice pins s σ H x y v u Q I rx ry q hs
  obtain ⟨p, xs, i, w, h1, h2, h3 | h3, h4, h5⟩ := q
  · exact ix_list value slice pins s σ H x y v u Q I rx ry ⟨p, xs, i, w, h1, h2, h3, h4, h5⟩ hs
  · exact ix_tup value slice pins s σ H x y v u Q I rx ry ⟨p, xs, i, w, h1, h2, h3, h4, h5⟩ hs
noncomputable def iSeq (K : PySem.W.Frag) (tl : TE) : TI := fun σ H R => tl σ H fun x H1 => ∃ a, x = .ref a ∧ (((∃ xs, SqL K H1 a xs) ∧ R (Itl K a) H1) ∨ ((∃ xs, SqT K H1 a xs) ∧ R (Itt K a) H1))
noncomputable def tAndG (K : PySem.W.Frag) (ta tb : TE) : TE := fun σ H Q => ta σ H fun x H1 => ∃ k, TruV K x H1 k ∧ if k = true then tb σ H1 Q else Q x H1
noncomputable def tOrG (K : PySem.W.Frag) (ta tb : TE) : TE := fun σ H Q => ta σ H fun x H1 => ∃ k, TruV K x H1 k ∧ if k = true then Q x H1 else tb σ H1 Q
noncomputable def tNotG (K : PySem.W.Frag) (ta : TE) : TE := fun σ H Q => ta σ H fun x H1 => ∃ k, TruV K x H1 k ∧ Q (.bl (!k)) H1
variable {a b : Expr} {rest : List Expr} {ta tb : TE} {pos : Pos}
theorem pe_andG (ha : PE X a ta) (hb : PE X (.BoolOp .And (b :: rest) pos) tb) : PE X (.BoolOp .And (a :: b :: rest) pos) (tAndG X.K ta tb) := by
  intro pins s σ H Q I h
  refine BoolOp_and (thn (ha pins s σ H _ I h) fun v s1 hh => ?_)
  obtain ⟨x, H1, I1, r1, k, tv, q1⟩ := hh
  refine thn (tru_ok pins s1 σ H1 x v (fun c H2 => H2 = H1 ∧ c = k) I1 r1 ⟨k, tv, rfl, rfl⟩) fun c s2 hh => ?_
  obtain ⟨H2, I2, e1, e2⟩ := hh
  subst e1 e2
  cases c with
  | true => rw [if_pos rfl] at q1; exact hb pins s2 σ H2 Q I2 q1
  | false => rw [if_neg Bool.false_ne_true] at q1; exact ⟨x, H2, I2, r1, q1⟩
theorem pe_orG (ha : PE X a ta) (hb : PE X (.BoolOp .Or (b :: rest) pos) tb) : PE X (.BoolOp .Or (a :: b :: rest) pos) (tOrG X.K ta tb) := by
  intro pins s σ H Q I h
  refine BoolOp_or (thn (ha pins s σ H _ I h) fun v s1 hh => ?_)
  obtain ⟨x, H1, I1, r1, k, tv, q1⟩ := hh
  refine thn (tru_ok pins s1 σ H1 x v (fun c H2 => H2 = H1 ∧ c = k) I1 r1 ⟨k, tv, rfl, rfl⟩) fun c s2 hh => ?_
  obtain ⟨H2, I2, e1, e2⟩ := hh
  subst e1 e2
  cases c with
  | true => rw [if_pos rfl] at q1; exact ⟨x, H2, I2, r1, q1⟩
  | false => rw [if_neg Bool.false_ne_true] at q1; exact hb pins s2 σ H2 Q I2 q1
theorem pe_notG (ha : PE X a ta) : PE X (.UnaryOp .Not a pos) (tNotG X.K ta) := by
  intro pins s σ H Q I h
  refine UnaryOp_ (thn (ha pins s σ H _ I h) fun v s1 hh => ?_)
  obtain ⟨x, H1, I1, r1, k, tv, q1⟩ := hh
  refine not_of (thn (tru_ok pins s1 σ H1 x v (fun c H2 => H2 = H1 ∧ c = k) I1 r1 ⟨k, tv, rfl, rfl⟩) fun c s2 hh => ?_)
  obtain ⟨H2, I2, e1, e2⟩ := hh
  subst e1 e2
  exact ⟨.bl (!c), H2, I2, rfl, q1⟩
end
section
variable {X : Cx} {tg : Expr}
theorem pi_seq {l : Expr} {tl : TE} (hl : PE X l tl) : PI X tg l (iSeq X.K tl) := by
  intro pins s σ H R I h
  refine thn (hl pins s σ H _ I h) fun v s1 hh => ?_
  obtain ⟨x, H1, I1, r1, a, ex, q⟩ := hh
  subst ex
  cases r1
  rcases q with ⟨⟨xs, hx⟩, q⟩ | ⟨⟨xs, hx⟩, q⟩
  · obtain ⟨its, r, p, hz⟩ := I1.list hx
    refine wpAny_pyIter_list p.isList ?_
    refine ⟨s1.heap.objs.size, [s1.heap.objs.size], _, _, H1, rfl, I1.kept (t' := s1.toks) fun b o e => Heap.get?_push_of_some _ e, turn_list a _, ⟨_, Heap.get?_push_size _ rfl, rfl, rfl⟩, fun b hb => ?_, q⟩
    have e : b = s1.heap.objs.size := by simpa using hb
    subst e
    exact I1.fpOk (Nat.le_refl _) I1.fresh
  · obtain ⟨its, r, p, hz⟩ := I1.tuple hx
    refine wpAny_pyIter_tuple (IsTup.isT p) ?_
    refine ⟨s1.heap.objs.size, [s1.heap.objs.size], _, _, H1, rfl, I1.kept (t' := s1.toks) fun b o e => Heap.get?_push_of_some _ e, turn_tuple a _, ⟨_, Heap.get?_push_size _ rfl, rfl, rfl⟩, fun b hb => ?_, q⟩
    have e : b = s1.heap.objs.size := by simpa using hb
    subst e
    exact I1.fpOk (Nat.le_refl _) I1.fresh
noncomputable def Cal (P : Program) (w : World) (K : PySem.W.Frag) (mg : Str → Option Value) (base : Heap) (CX : CXT) (k : Nat) (x : Str) (sp : Sp) : Prop :=
  ∃ f fd ps, FnOk P w K mg base CX k f fd ps sp ∧ mg x = some (.ref f) ∧ PySem.W.keepIn K (.ref f) = true ∧ Binds K fd ps []
noncomputable def tCallF (sp : Sp) (E : XK) (t : TA) : TE := fun σ H Q => t σ H fun vs H1 => sp vs H1 Q E
theorem pe_callF {CX : CXT} {k : Nat} {x : Str} {sp : Sp} {E : XK} {e : Expr} {es : List Expr} {t : TA} {p pos : Pos} (C : Cal X.prog X.w X.K X.mg X.base CX k x sp) (hr : Room k X.A) (hx : Passes CX X E) (hg : Gl X x)
    (ha : PA X (e :: es) t) (hdb : (x == ("__debug__" : Str)) = false := by decide) (he : starEach (e :: es) X.env = (false, eval e X.env) :: starEach es X.env := by rfl) (hpl : (backTo pos (starEach es X.env)).any (·.1) = false := by rfl) :
    PE X (.Call (.Name x p) (e :: es) [] pos) (tCallF sp E t) := by
  obtain ⟨f, fd, ps, F, hm, hk, hb⟩ := C
  have q := pe_call (dvs := []) (ds := []) F hr hg hm hk hb .nil hx ha hdb he hpl (p := p) (pos := pos)
  intro pins s σ H Q I h
  refine q pins s σ H Q I ?_
  show t σ H fun vs H1 => sp (vs ++ []) H1 Q E
  simp only [List.append_nil]
  exact h
theorem Cal.mono {P : Program} {w : World} {K : PySem.W.Frag} {mg : Str → Option Value} {base : Heap} {CX : CXT} {j k : Nat} {x : Str} {sp : Sp} (C : Cal P w K mg base CX j x sp) (h : j ≤ k) : Cal P w K mg base CX k x sp := by
  obtain ⟨f, fd, ps, F, r⟩ := C
  exact ⟨f, fd, ps, F.mono h, r⟩
end
structure Fd (K : PySem.W.Frag) (mg : Str → Option Value) (x : Str) (st : Stmt) (f : Addr) : Prop where
  ex : ∃ fd, Fun K x x st f fd
  at_ : mg x = some (.ref f)
theorem fd_mk {K : PySem.W.Frag} {h : Heap} {mg : Str → Option Value} {x : Str} {st : Stmt} {f : Addr} {oc : Value} {od an : Option Addr} {osl : Array (Option Value)} {kV doc pm cdv ct : Value} (X : K.In h) (G : h.Ns mainGlobals mg)
    (a : PySem.W.nsIn K mainGlobals x = some (some (.ref f))) (l : K.lookup f = some ⟨oc, od, .func (PySem.W.fnOf x x (defArgs st) (defBody st) (defScope st) .none kV doc pm an cdv ct), osl⟩)
    (c : PySem.W.codeIn K cdv x = true) (k : PySem.W.keepIn K (.ref f) = true) : Fd K mg x st f := ⟨⟨_, fun_mk l c k⟩, PySem.W.mg_of X G a⟩
end L3
namespace L3
open PySem PySem.Spec PyProof.Rows L2
theorem hu_n {A : Around} {k : Nat} (hr : Room k A) : A.units + 150 < cLine := by have := hr.un; lia
theorem atI_mem {α : Type} {xs : List α} {i : Int} (h0 : 0 ≤ i) (h1 : i < xs.length) : ∃ v, atI xs i = some v ∧ v ∈ xs := by
  have hlt : i.toNat < xs.length := by lia
  refine ⟨xs[i.toNat], ?_, List.getElem_mem hlt⟩
  have e : ((i.toNat : Nat) : Int) = i := by lia
  have := atI_nat (xs := xs) (j := i.toNat) (v := xs[i.toNat]) (List.getElem?_eq_getElem hlt)
  rw [e] at this
  exact this
theorem atI_ints {ns : List Int} {i : Int} (h0 : 0 ≤ i) (h1 : i < ns.length) : ∃ n, atI (ns.map V.int) i = some (.int n) ∧ n ∈ ns := by
  obtain ⟨v, e, m⟩ := atI_mem (xs := ns.map V.int) h0 (by rw [List.length_map]; exact h1)
  obtain ⟨n, hn, rfl⟩ := List.mem_map.mp m
  exact ⟨n, e, hn⟩
theorem sizeBig {n : Nat} (h : n ≤ 100000) : n < sizeLine := Nat.lt_of_le_of_lt h (by decide)
theorem sizeBig' {n : Nat} (h : n ≤ 100000) : n ≤ sizeLine := Nat.le_of_lt (sizeBig h)
section
variable {g : TG} {tt : TT} {te : TE} {acc : Addr} {σ0 : St} {H0 : Hp} {Q : Hp → Prop}
@[irreducible] noncomputable def CPost (Pv : Nat → List V → St → Hp → Prop) (acc : Addr) (n i : Nat) (σ2 : St) (y : V) (H4 : Hp) : Prop :=
  ∃ ys, H4 acc = some (.lst ys) ∧ ys.length < sizeLine ∧ ∃ m', m' < n - i ∧ m' = n - (i + 1) ∧ i + 1 ≤ n ∧ ∃ zs, Pv (i + 1) zs σ2 (upd H4 acc (.lst (ys ++ [y])))
@[irreducible] noncomputable def CSkip (Pv : Nat → List V → St → Hp → Prop) (n i : Nat) (σ2 : St) (H3 : Hp) : Prop := ∃ m', m' < n - i ∧ m' = n - (i + 1) ∧ i + 1 ≤ n ∧ ∃ zs, Pv (i + 1) zs σ2 H3
theorem cpost {Pv : Nat → List V → St → Hp → Prop} {n i : Nat} {σ2 : St} {y : V} {H4 : Hp} {ys : List V} (h1 : H4 acc = some (.lst ys)) (h2 : ys.length < sizeLine) (h3 : i < n) (h4 : Pv (i + 1) (ys ++ [y]) σ2 (upd H4 acc (.lst (ys ++ [y])))) : CPost Pv acc n i σ2 y H4 :=
  by unfold CPost; exact ⟨ys, h1, h2, n - (i + 1), by lia, rfl, h3, _, h4⟩
theorem cskip {Pv : Nat → List V → St → Hp → Prop} {n i : Nat} {σ2 : St} {H4 : Hp} {ys : List V} (h3 : i < n) (h4 : Pv (i + 1) ys σ2 H4) : CSkip Pv n i σ2 H4 := by unfold CSkip; exact ⟨n - (i + 1), by lia, rfl, h3, _, h4⟩
theorem comp_list {K : PySem.W.Frag} {a : Addr} {xs : List V} (Pv : Nat → List V → St → Hp → Prop) (h0 : Pv 0 [] σ0 H0) (hl : ∀ i ys σ H, Pv i ys σ H → SqL K H a xs)
    (hs : ∀ i ys x σ H, xs[i]? = some x → i < xs.length → Pv i ys σ H → g x σ H fun σ2 H2 => tt σ2 H2 fun b H3 => if b = true then te σ2 H3 (CPost Pv acc xs.length i σ2) else CSkip Pv xs.length i σ2 H3)
    (hd : ∀ ys σ H, Pv xs.length ys σ H → Q H) : CompW (Itl K a) g tt te acc σ0 H0 Q := by
  refine ⟨fun i m σ H => m = xs.length - i ∧ i ≤ xs.length ∧ ∃ ys, Pv i ys σ H, ⟨xs.length, by simp, Nat.zero_le _, [], h0⟩, ?_⟩
  rintro i m σ H ⟨rfl, hi, ys, p⟩
  have q := hl i ys σ H p
  by_cases hlt : i < xs.length
  · refine .inr ⟨⟨xs, xs[i], q, by simp [hlt]⟩, fun x H1 y => ?_⟩
    obtain ⟨e, y⟩ := y
    subst e
    have z := hs i ys x σ _ (y xs q) hlt p
    unfold CPost CSkip at z
    exact z
  · have e : i = xs.length := by lia
    subst e
    exact .inl ⟨⟨xs, q, Nat.le_refl _⟩, hd ys σ H p⟩
theorem comp_range {lo : Int} {n : Nat} (Pv : Nat → List V → St → Hp → Prop) (h0 : Pv 0 [] σ0 H0)
    (hs : ∀ i ys σ H, i < n → Pv i ys σ H → g (.int (lo + i)) σ H fun σ2 H2 => tt σ2 H2 fun b H3 => if b = true then te σ2 H3 (CPost Pv acc n i σ2) else CSkip Pv n i σ2 H3)
    (hd : ∀ ys σ H, Pv n ys σ H → Q H) : CompW (Itr lo n) g tt te acc σ0 H0 Q := by
  refine ⟨fun i m σ H => m = n - i ∧ i ≤ n ∧ ∃ ys, Pv i ys σ H, ⟨n, by simp, Nat.zero_le _, [], h0⟩, ?_⟩
  rintro i m σ H ⟨rfl, hi, ys, p⟩
  by_cases hlt : i < n
  · refine .inr ⟨hlt, fun x H1 y => ?_⟩
    obtain ⟨e, y⟩ := y
    subst e y
    have z := hs i ys σ _ hlt p
    unfold CPost CSkip at z
    exact z
  · have e : i = n := by lia
    subst e
    exact .inl ⟨Nat.le_refl _, hd ys σ H p⟩
end
end L3
namespace L3
open PySem PySem.Spec PyProof.Rows L2
end L3
namespace L3
open PySem PySem.Spec PyProof.Rows L2
theorem cmL {i j : Int} (h : -(2 ^ 64) < i ∧ i < 2 ^ 64) : CMul i j := .inl h
theorem cmR {i j : Int} (h : -(2 ^ 64) < j ∧ j < 2 ^ 64) : CMul i j := .inr h
theorem rm_trans {p : Addr} {H H1 H2 : Hp} (s1 : Same (rm p H) H1) (s2 : Same (rm p H1) H2) : Same (rm p H) H2 := (rm_mono s1).trans s2
theorem rm_of' {p : Addr} {H H' : Hp} (s : Same H H') : Same (rm p H) (rm p H') := rm_mono (rm_same.trans s)
theorem rm_look {p b : Addr} {H H' : Hp} {o : HO} (s : Same (rm p H) H') (h : H b = some o) (hb : b ≠ p) : H' b = some o := s b o (by rw [rm_ne hb]; exact h)
theorem Fd.none {P : Program} {w : World} {K : PySem.W.Frag} {mg : Str → Option Value} {base : Heap} {x : Str} {st : Stmt} {f : Addr} {ps : List Str} {sp : Sp} (F : Fd K mg x st f)
    (hb : ∀ (kV doc pm : Value) (an : Option Addr) (cdv ct : Value) (us : List Value), us.length = ps.length → bindArgs (PySem.W.fnOf x x (defArgs st) (defBody st) (defScope st) .none kV doc pm an cdv ct) ⟨us, []⟩ = pure (ps.zip us))
    (h : ∀ vs H Q E, ¬ sp vs H Q E) : Cal P w K mg base CX0 0 x sp := by
  obtain ⟨⟨fd, F1⟩, F2⟩ := F
  exact ⟨f, fd, ps, ⟨fun vs H Q E q => (h vs H Q E q).elim, fun A outer s H args us vs Q E _ _ _ _ q => (h vs H Q E q).elim⟩, F2, F1.kp, F1.binds hb⟩
end L3
namespace L3
open PySem
theorem bt_len : bootBuiltins "len" = some (.builtin "len") := by decide +kernel
theorem bt_isinstance : bootBuiltins "isinstance" = some (.builtin "isinstance") := by decide +kernel
theorem bt_max : bootBuiltins "max" = some (.builtin "max") := by decide +kernel
theorem bt_min : bootBuiltins "min" = some (.builtin "min") := by decide +kernel
theorem bt_sum : bootBuiltins "sum" = some (.builtin "sum") := by decide +kernel
theorem bt_all : bootBuiltins "all" = some (.builtin "all") := by decide +kernel
theorem bt_sorted : bootBuiltins "sorted" = some (.builtin "sorted") := by decide +kernel
theorem bt_int : bootBuiltins "int" = some (.type "int") := by decide +kernel
theorem bt_bool : bootBuiltins "bool" = some (.type "bool") := by decide +kernel
theorem bt_str : bootBuiltins "str" = some (.type "str") := by decide +kernel
theorem bt_tuple : bootBuiltins "tuple" = some (.type "tuple") := by decide +kernel
theorem bt_list : bootBuiltins "list" = some (.type "list") := by decide +kernel
theorem bt_set : bootBuiltins "set" = some (.type "set") := by decide +kernel
end L3
namespace L3
open PySem PySem.Spec PyProof.Rows L2
section
variable {X : Cx} {a b e o l : Expr} {es rest : List Expr} {ta tb te to tl : TE} {t : TA} {pos : Pos}
theorem kIx (K : PySem.W.Frag) (hK : X.K = K := by rfl) : IxR X (rIxG K) := by subst hK; exact ix_G
theorem kAnd (K : PySem.W.Frag) (ha : PE X a ta) (hb : PE X (.BoolOp .And (b :: rest) pos) tb) (hK : X.K = K := by rfl) : PE X (.BoolOp .And (a :: b :: rest) pos) (tAndG K ta tb) := by subst hK; exact pe_andG ha hb
theorem kOr (K : PySem.W.Frag) (ha : PE X a ta) (hb : PE X (.BoolOp .Or (b :: rest) pos) tb) (hK : X.K = K := by rfl) : PE X (.BoolOp .Or (a :: b :: rest) pos) (tOrG K ta tb) := by subst hK; exact pe_orG ha hb
theorem kNot (K : PySem.W.Frag) (ha : PE X a ta) (hK : X.K = K := by rfl) : PE X (.UnaryOp .Not a pos) (tNotG K ta) := by subst hK; exact pe_notG ha
noncomputable def rLen (K : PySem.W.Frag) : List V → Hp → VK → Prop := fun xs H Q => ∃ p ys, xs = [.ref p] ∧ (SqL K H p ys ∨ SqT K H p ys) ∧ Q (.int ys.length) H
theorem kLen (K : PySem.W.Frag) (hK : X.K = K := by rfl) : CallR X (.builtin "len") (rLen K) := by subst hK; exact call_len_seq
noncomputable def tTru (K : PySem.W.Frag) (ta : TE) : TT := fun σ H Q => ta σ H fun x H' => ∃ k, TruV K x H' k ∧ Q k H'
theorem kTru (K : PySem.W.Frag) (ha : PE X a ta) (he : ∀ whole, isTrue a X.env whole = (do let v ← whole; standAt a.pos; holding [v] (truthy v))) (hK : X.K = K := by rfl) : PT X a (tTru K ta) := by subst hK; exact pt_truth ha he
noncomputable def rIsi (K : PySem.W.Frag) : List V → Hp → VK → Prop := fun xs H Q => ∃ x T t b, xs = [x, .ty T] ∧ TyOf K H x t ∧ PySem.W.kitOne K t (.type T) = some b ∧ Q (.bl b) H
theorem kIsi (K : PySem.W.Frag) (hK : X.K = K := by rfl) : CallR X (.builtin "isinstance") (rIsi K) := by subst hK; exact call_isi
theorem kSl (K : PySem.W.Frag) (hK : X.K = K := by rfl) : SlR X (rSlN K) := by subst hK; exact sl_listN
theorem kSeq {tg : Expr} (K : PySem.W.Frag) (hl : PE X l tl) (hK : X.K = K := by rfl) : PI X tg l (iSeq K tl) := by subst hK; exact pi_seq hl
noncomputable def notStar : Expr → Bool
  | .Starred _ _ => false
  | _ => true
theorem star_cons {e : Expr} {es : List Expr} {env : Env} (h : notStar e = true) : starEach (e :: es) env = (false, eval e env) :: starEach es env := by
  cases e <;> first
    | rfl
    | cases h
theorem star_nil {env : Env} : starEach [] env = [] := rfl
theorem star_any {pos : Pos} {env : Env} : ∀ es : List Expr, es.all notStar = true → (backTo pos (starEach es env)).any (·.1) = false
  | [], _ => by rw [star_nil]; rfl
  | e :: r, h => by
    rw [List.all_cons, Bool.and_eq_true] at h
    rw [star_cons h.1]
    have := star_any (pos := pos) (env := env) r h.2
    unfold backTo at this ⊢
    rw [List.map_cons, List.any_cons, this]; rfl
theorem star_all {pos : Pos} {env : Env} : ∀ es : List Expr, es.all notStar = true → (backTo pos (starEach es env)).all (fun x => !x.1) = true
  | [], _ => by rw [star_nil]; rfl
  | e :: r, h => by
    rw [List.all_cons, Bool.and_eq_true] at h
    rw [star_cons h.1]
    have := star_all (pos := pos) (env := env) r h.2
    unfold backTo at this ⊢
    rw [List.map_cons, List.all_cons, this]; rfl
theorem all_head {e : Expr} {es : List Expr} (h : (e :: es).all notStar = true) : notStar e = true ∧ es.all notStar = true := by rw [List.all_cons, Bool.and_eq_true] at h; exact h
theorem paC (ha : PE X e te) (hr : PA X es t) (h : notStar e = true := by rfl) : PA X (e :: es) (tCons te t) := pa_cons ha hr (star_cons h)
theorem cF {CX : CXT} {k : Nat} {x : Str} {sp : Sp} {E : XK} {p pos : Pos} (C : Cal X.prog X.w X.K X.mg X.base CX k x sp) (hr : Room k X.A) (hx : Passes CX X E) (hg : Gl X x)
    (ha : PA X (e :: es) t) (hdb : (x == ("__debug__" : Str)) = false := by decide) (h : (e :: es).all notStar = true := by rfl) : PE X (.Call (.Name x p) (e :: es) [] pos) (tCallF sp E t) :=
  pe_callF C hr hx hg ha hdb (star_cons (all_head h).1) (star_any es (all_head h).2)
theorem cB {id : String} {r : List V → Hp → VK → Prop} {x : Str} {p pos : Pos} (hc : CallR X (.builtin id) r) (hg : Gl X x) (hm : X.mg x = none) (hv : bootBuiltins x = some (.builtin id)) (ha : PA X (e :: es) t) (hn : x ≠ "__name__" := by decide) (hdb : (x == ("__debug__" : Str)) = false := by decide)
    (h : (e :: es).all notStar = true := by rfl) : PE X (.Call (.Name x p) (e :: es) [] pos) (tCB r t) := pe_callB hc hg hm hv ha hn hdb (star_cons (all_head h).1) (star_any es (all_head h).2)
theorem cTy {T : String} {r : List V → Hp → VK → Prop} {x : Str} {p pos : Pos} (hc : CallR X (.type T) r) (hg : Gl X x) (hm : X.mg x = none) (hv : bootBuiltins x = some (.type T)) (ha : PA X (e :: es) t) (hn : x ≠ "__name__" := by decide) (hdb : (x == ("__debug__" : Str)) = false := by decide)
    (h : (e :: es).all notStar = true := by rfl) : PE X (.Call (.Name x p) (e :: es) [] pos) (tCB r t) := pe_callTy hc hg hm hv ha hn hdb (star_cons (all_head h).1) (star_any es (all_head h).2)
theorem iRange1 {tg : Expr} {ta : TA} {p pos : Pos} (hg : Gl X "range") (hm : X.mg "range" = none) (ha : PA X [a] ta) (h : notStar a = true := by rfl) : PI X tg (.Call (.Name "range" p) [a] [] pos) (iRng1 ta) := pi_range1 hg hm ha (by rw [star_cons h, star_nil])
theorem kBm {name : Str} {apos cpos : Pos} {T id : String} {r : V → List V → Hp → VK → Prop} (K : PySem.W.Frag) (pa : PlainAttrs T) (slot : Slot T name id) (hty : typeOf (.builtin id) = pure (.type "method_descriptor")) (hm : MtR X id r) (ho : PE X o to) (ha : PA X (e :: es) t)
    (hbase : attributeBase o name X.env (eval o X.env) = eval o X.env := by rfl) (h : (e :: es).all notStar = true := by rfl) (hl : decide ((e :: es).length < 30) = true := by rfl)
    (hline : (apos.endLine == cpos.line) = true := by rfl) (hK : X.K = K := by rfl) :
    PE X (.Call (.Attribute o name apos) (e :: es) [] cpos) (tBM K T r to t) := by
  subst hK
  refine pe_bm pa slot hty hm ho ha hbase ?_ hline (star_cons (all_head h).1) (star_any es (all_head h).2)
  rw [star_all (e :: es) h, Bool.true_and, Bool.and_eq_true]
  exact ⟨rfl, hl⟩
theorem kBm0 {name : Str} {apos cpos : Pos} {T id : String} {r : V → List V → Hp → VK → Prop} (K : PySem.W.Frag) (pa : PlainAttrs T) (slot : Slot T name id) (hty : typeOf (.builtin id) = pure (.type "method_descriptor")) (hm : MtR X id r) (ho : PE X o to)
    (hbase : attributeBase o name X.env (eval o X.env) = eval o X.env := by rfl) (hline : (apos.endLine == cpos.line) = true := by rfl) (hK : X.K = K := by rfl) : PE X (.Call (.Attribute o name apos) [] [] cpos) (tBM0 K T r to) := by subst hK; exact pe_bm0 pa slot hty hm ho hbase hline
end
end L3
namespace L3
open PySem PySem.Spec PyProof.Rows L2
@[irreducible] noncomputable def QE (X : Cx) (e : Expr) (t : TE) : Prop := PE X e t
@[irreducible] noncomputable def QT (X : Cx) (e : Expr) (t : TT) : Prop := PT X e t
@[irreducible] noncomputable def QW (X : Cx) (e : Expr) (t : TT) : Prop := PW X e t
@[irreducible] noncomputable def QA (X : Cx) (es : List Expr) (t : TA) : Prop := PA X es t
@[irreducible] noncomputable def QS (X : Cx) (s : Stmt) (t : TS) : Prop := PS X s t
@[irreducible] noncomputable def QSs (X : Cx) (s : List Stmt) (t : TS) : Prop := PSs X s t
@[irreducible] noncomputable def QG (X : Cx) (e : Expr) (t : TG) : Prop := PG X e t
@[irreducible] noncomputable def QGs (X : Cx) (es : List Expr) (t : TGs) : Prop := PGs X es t
@[irreducible] noncomputable def QI (X : Cx) (tg e : Expr) (t : TI) : Prop := PI X tg e t
@[irreducible] noncomputable def QO (X : Cx) (e : Option Expr) (t : TO) : Prop := PO X e t
@[irreducible] noncomputable def QTs (X : Cx) (es : List Expr) (t : TT) : Prop := PTs X es t
@[irreducible] noncomputable def ROp (X : Cx) (f : Value → Value → Sem Value) (r : R2) : Prop := OpR X f r
@[irreducible] noncomputable def RUn (X : Cx) (f : Value → Sem Value) (r : V → Hp → VK → Prop) : Prop := UnR X f r
@[irreducible] noncomputable def RCall (X : Cx) (f : Value) (r : List V → Hp → VK → Prop) : Prop := CallR X f r
@[irreducible] noncomputable def RIx (X : Cx) (r : R2) : Prop := IxR X r
@[irreducible] noncomputable def RMt (X : Cx) (id : String) (r : V → List V → Hp → VK → Prop) : Prop := MtR X id r
@[irreducible] noncomputable def RSl (X : Cx) (r : V → Option Int → Option Int → Hp → VK → Prop) : Prop := SlR X r
@[irreducible] noncomputable def RSet (X : Cx) (r : TSet) : Prop := PSet X r
@[irreducible] noncomputable def RIp (X : Cx) (op : Operator) (r : TIp) : Prop := PIp X op r
section
variable {X : Cx}
theorem QE.un {e : Expr} {t : TE} (h : QE X e t) : PE X e t := by unfold QE at h; exact h
theorem QE.mk {e : Expr} {t : TE} (h : PE X e t) : QE X e t := by unfold QE; exact h
theorem QT.un {e : Expr} {t : TT} (h : QT X e t) : PT X e t := by unfold QT at h; exact h
theorem QT.mk {e : Expr} {t : TT} (h : PT X e t) : QT X e t := by unfold QT; exact h
theorem QW.un {e : Expr} {t : TT} (h : QW X e t) : PW X e t := by unfold QW at h; exact h
theorem QW.mk {e : Expr} {t : TT} (h : PW X e t) : QW X e t := by unfold QW; exact h
theorem QA.un {es : List Expr} {t : TA} (h : QA X es t) : PA X es t := by unfold QA at h; exact h
theorem QA.mk {es : List Expr} {t : TA} (h : PA X es t) : QA X es t := by unfold QA; exact h
theorem QS.un {s : Stmt} {t : TS} (h : QS X s t) : PS X s t := by unfold QS at h; exact h
theorem QS.mk {s : Stmt} {t : TS} (h : PS X s t) : QS X s t := by unfold QS; exact h
theorem QSs.un {s : List Stmt} {t : TS} (h : QSs X s t) : PSs X s t := by unfold QSs at h; exact h
theorem QSs.mk {s : List Stmt} {t : TS} (h : PSs X s t) : QSs X s t := by unfold QSs; exact h
theorem QG.un {e : Expr} {t : TG} (h : QG X e t) : PG X e t := by unfold QG at h; exact h
theorem QG.mk {e : Expr} {t : TG} (h : PG X e t) : QG X e t := by unfold QG; exact h
theorem QGs.un {es : List Expr} {t : TGs} (h : QGs X es t) : PGs X es t := by unfold QGs at h; exact h
theorem QGs.mk {es : List Expr} {t : TGs} (h : PGs X es t) : QGs X es t := by unfold QGs; exact h
theorem QI.un {tg e : Expr} {t : TI} (h : QI X tg e t) : PI X tg e t := by unfold QI at h; exact h
theorem QI.mk {tg e : Expr} {t : TI} (h : PI X tg e t) : QI X tg e t := by unfold QI; exact h
theorem QO.un {e : Option Expr} {t : TO} (h : QO X e t) : PO X e t := by unfold QO at h; exact h
theorem QO.mk {e : Option Expr} {t : TO} (h : PO X e t) : QO X e t := by unfold QO; exact h
theorem QTs.un {es : List Expr} {t : TT} (h : QTs X es t) : PTs X es t := by unfold QTs at h; exact h
theorem QTs.mk {es : List Expr} {t : TT} (h : PTs X es t) : QTs X es t := by unfold QTs; exact h
theorem ROp.un {f : Value → Value → Sem Value} {r : R2} (h : ROp X f r) : OpR X f r := by unfold ROp at h; exact h
theorem ROp.mk {f : Value → Value → Sem Value} {r : R2} (h : OpR X f r) : ROp X f r := by unfold ROp; exact h
theorem RUn.un {f : Value → Sem Value} {r : V → Hp → VK → Prop} (h : RUn X f r) : UnR X f r := by unfold RUn at h; exact h
theorem RUn.mk {f : Value → Sem Value} {r : V → Hp → VK → Prop} (h : UnR X f r) : RUn X f r := by unfold RUn; exact h
theorem RCall.un {f : Value} {r : List V → Hp → VK → Prop} (h : RCall X f r) : CallR X f r := by unfold RCall at h; exact h
theorem RCall.mk {f : Value} {r : List V → Hp → VK → Prop} (h : CallR X f r) : RCall X f r := by unfold RCall; exact h
theorem RIx.un {r : R2} (h : RIx X r) : IxR X r := by unfold RIx at h; exact h
theorem RIx.mk {r : R2} (h : IxR X r) : RIx X r := by unfold RIx; exact h
theorem RMt.un {id : String} {r : V → List V → Hp → VK → Prop} (h : RMt X id r) : MtR X id r := by unfold RMt at h; exact h
theorem RMt.mk {id : String} {r : V → List V → Hp → VK → Prop} (h : MtR X id r) : RMt X id r := by unfold RMt; exact h
theorem RSl.un {r : V → Option Int → Option Int → Hp → VK → Prop} (h : RSl X r) : SlR X r := by unfold RSl at h; exact h
theorem RSl.mk {r : V → Option Int → Option Int → Hp → VK → Prop} (h : SlR X r) : RSl X r := by unfold RSl; exact h
theorem RSet.un {r : TSet} (h : RSet X r) : PSet X r := by unfold RSet at h; exact h
theorem RSet.mk {r : TSet} (h : PSet X r) : RSet X r := by unfold RSet; exact h
theorem RIp.mk {op : Operator} {r : TIp} (h : PIp X op r) : RIp X op r := by unfold RIp; exact h
end
section
variable {X : Cx} {a b c e o l : Expr} {es rest : List Expr} {ta tb tc te to tl : TE} {t : TA} {pos : Pos} {tA tB' : TT}
theorem rAdd : ROp X (binaryOp .Add) rAddG := .mk op_addG
theorem rSub : ROp X (binaryOp .Sub) (rI0 fun i j => .int (i - j)) := .mk op_sub
theorem rMul : ROp X (binaryOp .Mult) (rI CMul fun i j => .int (i * j)) := .mk op_mul
theorem rMod : ROp X (binaryOp .Mod) (rI (fun _ j => 0 < j) fun i j => .int (i % j)) := .mk op_mod
theorem rPow : ROp X (binaryOp .Pow) (rI CPow fun i j => .int (i ^ j.toNat)) := .mk op_pow
theorem rNeg : RUn X (unaryOp .USub) (rU fun i => .int (-i)) := .mk un_neg
theorem rLt : ROp X (compareOp .Lt) (rI0 fun i j => .bl (decide (i < j))) := .mk op_lt
theorem rLe : ROp X (compareOp .LtE) (rI0 fun i j => .bl (decide (i ≤ j))) := .mk op_le
theorem rGt : ROp X (compareOp .Gt) (rI0 fun i j => .bl (decide (j < i))) := .mk op_gt
theorem rGe : ROp X (compareOp .GtE) (rI0 fun i j => .bl (decide (j ≤ i))) := .mk op_ge
theorem rEqq {k : Nat} {A : Around} (hr : Room k A) (hA : X.A = A := by rfl) : ROp X (compareOp .Eq) (rEqG 150) := .mk (op_eqG (by rw [hA]; exact hu_n hr))
theorem rNeq {k : Nat} {A : Around} (hr : Room k A) (hA : X.A = A := by rfl) : ROp X (compareOp .NotEq) (rNeG 150) := .mk (op_neG (by rw [hA]; exact hu_n hr))
theorem rIs : ROp X (compareOp .Is) (fun x y H Q => y = .non ∧ Q (.bl (decide (x = .non))) H) := .mk op_isN
theorem rIsNot : ROp X (compareOp .IsNot) (fun x y H Q => y = .non ∧ Q (.bl (!decide (x = .non))) H) := .mk op_notN
theorem xIx (K : PySem.W.Frag) (hK : X.K = K := by rfl) : RIx X (rIxG K) := .mk (kIx K hK)
theorem xSl (K : PySem.W.Frag) (hK : X.K = K := by rfl) : RSl X (rSlN K) := .mk (kSl K hK)
theorem xSet : RSet X rSetL := .mk set_list
theorem fLen (K : PySem.W.Frag) (hK : X.K = K := by rfl) : RCall X (.builtin "len") (rLen K) := .mk (kLen K hK)
theorem fIsi (K : PySem.W.Frag) (hK : X.K = K := by rfl) : RCall X (.builtin "isinstance") (rIsi K) := .mk (kIsi K hK)
noncomputable def rStrInt : List V → Hp → VK → Prop := fun xs H Q => ∃ i, xs = [.int i] ∧ i.natAbs.log2 < 1920 ∧ Q (.str (toString i)) H
theorem fStr : RCall X (.type "str") rStrInt := .mk call_str_int
noncomputable def rInt1 : List V → Hp → VK → Prop := fun xs H Q => (∃ i, xs = [.int i] ∧ Q (.int i) H) ∨ ∃ k, xs = [.bl k] ∧ Q (.int (if k then 1 else 0)) H
theorem fInt : RCall X (.type "int") rInt1 := .mk call_int1
theorem mAppend : RMt X "list.append" rAppend := .mk mt_append
theorem mExtend : RMt X "list.extend" rExtend := .mk mt_extend
theorem mPop : RMt X "list.pop" rPop := .mk mt_pop
theorem qv (i : Nat) {x : Str} {pos : Pos} (hN : X.N[i]? = some x := by rfl) (hv : Vis X.env.scope x := by first | exact Or.inl rfl | exact Or.inr (Or.inl rfl) | exact Or.inr (Or.inr rfl)) (hd : (x == ("__debug__" : Str)) = false := by decide)
    (hcd : (x == ("__classdict__" : Str)) = false := by decide) : QE X (.Name x pos) (tVar i) := .mk (pe_var hN hv hd hcd)
theorem qint {i j pos} : QE X (.Constant (.int i) j pos) (tC (.int i)) := .mk pe_int
theorem qbl {b j pos} : QE X (.Constant (.bool b) j pos) (tC (.bl b)) := .mk pe_bl
theorem qnon {j pos} : QE X (.Constant .none j pos) (tC .non) := .mk pe_non
theorem qstr {x j pos} : QE X (.Constant (.str x) j pos) (tC (.str x)) := .mk pe_str
theorem qty {x : Str} {T : String} {pos : Pos} (hg : Gl X x) (hm : X.mg x = none) (hv : bootBuiltins x = some (.type T)) (hn : x ≠ "__name__" := by decide) (hd : (x == ("__debug__" : Str)) = false := by decide) : QE X (.Name x pos) (tC (.ty T)) := .mk (pe_bltn hg hm hv rfl hn hd)
theorem qglobI {x : Str} {i : Int} {pos : Pos} (hg : Gl X x) (hm : ∃ tk, X.mg x = some (.int i tk)) (hd : (x == ("__debug__" : Str)) = false := by decide) : QE X (.Name x pos) (tC (.int i)) := by
  obtain ⟨tk, h⟩ := hm
  exact .mk (pe_glob hg h ⟨tk, rfl⟩ hd)
theorem qop {op : Operator} {r : R2} (ho : ROp X (binaryOp op) r) (ha : QE X a ta) (hb : QE X b tb) : QE X (.BinOp a op b pos) (tOp r ta tb) := .mk (pe_op ho.un ha.un hb.un)
theorem qun {op : UnaryOp} {r : V → Hp → VK → Prop} (ho : RUn X (unaryOp op) r) (ha : QE X a ta) : QE X (.UnaryOp op a pos) (tUn r ta) := .mk (pe_un ho.un ha.un)
theorem qcmp {op : CmpOp} {r : R2} (ho : ROp X (compareOp op) r) (ha : QE X a ta) (hb : QE X b tb) (hm : behindInMarks op b = false) : QE X (.Compare a [op] [b] pos) (tOp r ta tb) := .mk (pe_cmpR ho.un ha.un hb.un hm)
theorem qchain {op op' : CmpOp} {r r' : R2} (ho : ROp X (compareOp op) r) (ho' : ROp X (compareOp op') r') (ha : QE X a ta) (hb : QE X b tb) (hc : QE X c tc)
    (hm : lastMarks [op, op'] [b, c] = false := by with_unfolding_all rfl) : QE X (.Compare a [op, op'] [b, c] pos) (tChain r r' ta tb tc) := .mk (pe_chain ho.un ho'.un ha.un hb.un hc.un hm)
theorem qand (K : PySem.W.Frag) (ha : QE X a ta) (hb : QE X (.BoolOp .And (b :: rest) pos) tb) (hK : X.K = K := by rfl) : QE X (.BoolOp .And (a :: b :: rest) pos) (tAndG K ta tb) := .mk (kAnd K ha.un hb.un hK)
theorem qor (K : PySem.W.Frag) (ha : QE X a ta) (hb : QE X (.BoolOp .Or (b :: rest) pos) tb) (hK : X.K = K := by rfl) : QE X (.BoolOp .Or (a :: b :: rest) pos) (tOrG K ta tb) := .mk (kOr K ha.un hb.un hK)
theorem qone {op} (h : QE X a te) : QE X (.BoolOp op [a] pos) te := .mk (pe_one h.un)
theorem qnot (K : PySem.W.Frag) (ha : QE X a ta) (hK : X.K = K := by rfl) : QE X (.UnaryOp .Not a pos) (tNotG K ta) := .mk (kNot K ha.un hK)
theorem qif (hc : QT X c tA) (ha : QE X a ta) (hb : QE X b tb) : QE X (.IfExp c a b pos) (tIf tA ta tb) := .mk (pe_ifExp hc.un ha.un hb.un)
theorem qnil : QA X [] tNil := .mk pa_nil
theorem qcons (ha : QE X e te) (hr : QA X es t) (h : notStar e = true := by rfl) : QA X (e :: es) (tCons te t) := .mk (paC ha.un hr.un h)
theorem qtup {x1} (h : QA X es t) : QE X (.Tuple es x1 pos) (tTupN t) := .mk (pe_tupN h.un)
theorem qlst (h : QA X es t) : QE X (.List es pos) (tLstN t) := .mk (pe_lstN h.un)
theorem qdict : QE X (.Dict [] [] pos) tDictN := .mk pe_dictN
theorem qix {r : R2} (hr : RIx X r) (ha : QE X a ta) (hb : QE X b tb) (hs : PlainIx b) : QE X (.Subscript a b pos) (tOp r ta tb) := .mk (pe_ix hr.un ha.un hb.un hs)
theorem qslice {r : V → Option Int → Option Int → Hp → VK → Prop} {lo hi : Option Expr} {t1 t2 : TO} {p2 : Pos} (hr : RSl X r) (he : QE X e te) (hl : QO X lo t1) (hu : QO X hi t2) : QE X (.Subscript e (.Slice lo hi none p2) pos) (tSl r te t1 t2) := .mk (pe_slice hr.un he.un hl.un hu.un)
theorem onone : QO X none tNoPart := .mk po_none
theorem osome (h : QE X e te) : QO X (some e) (tPart te) := .mk (po_some h.un)
theorem qF {CX : CXT} {k : Nat} {x : Str} {sp : Sp} {E : XK} {p pos : Pos} (C : Cal X.prog X.w X.K X.mg X.base CX k x sp) (hr : Room k X.A) (hx : Passes CX X E) (hg : Gl X x)
    (ha : QA X (e :: es) t) (hdb : (x == ("__debug__" : Str)) = false := by decide) (h : (e :: es).all notStar = true := by rfl) : QE X (.Call (.Name x p) (e :: es) [] pos) (tCallF sp E t) := .mk (cF C hr hx hg ha.un hdb h)
theorem qB {id : String} {r : List V → Hp → VK → Prop} {x : Str} {p pos : Pos} (hc : RCall X (.builtin id) r) (hg : Gl X x) (hm : X.mg x = none) (hv : bootBuiltins x = some (.builtin id)) (ha : QA X (e :: es) t) (hn : x ≠ "__name__" := by decide) (hdb : (x == ("__debug__" : Str)) = false := by decide)
    (h : (e :: es).all notStar = true := by rfl) : QE X (.Call (.Name x p) (e :: es) [] pos) (tCB r t) := .mk (cB hc.un hg hm hv ha.un hn hdb h)
theorem qTy {T : String} {r : List V → Hp → VK → Prop} {x : Str} {p pos : Pos} (hc : RCall X (.type T) r) (hg : Gl X x) (hm : X.mg x = none) (hv : bootBuiltins x = some (.type T)) (ha : QA X (e :: es) t) (hn : x ≠ "__name__" := by decide) (hdb : (x == ("__debug__" : Str)) = false := by decide)
    (h : (e :: es).all notStar = true := by rfl) : QE X (.Call (.Name x p) (e :: es) [] pos) (tCB r t) := .mk (cTy hc.un hg hm hv ha.un hn hdb h)
theorem qBm {name : Str} {apos cpos : Pos} {T id : String} {r : V → List V → Hp → VK → Prop} (K : PySem.W.Frag) (pa : PlainAttrs T) (slot : Slot T name id) (hty : typeOf (.builtin id) = pure (.type "method_descriptor")) (hm : RMt X id r) (ho : QE X o to) (ha : QA X (e :: es) t)
    (hbase : attributeBase o name X.env (eval o X.env) = eval o X.env := by rfl) (h : (e :: es).all notStar = true := by rfl) (hl : decide ((e :: es).length < 30) = true := by rfl)
    (hline : (apos.endLine == cpos.line) = true := by rfl) (hK : X.K = K := by rfl) : QE X (.Call (.Attribute o name apos) (e :: es) [] cpos) (tBM K T r to t) := .mk (kBm K pa slot hty hm.un ho.un ha.un hbase h hl hline hK)
theorem qBm0 {name : Str} {apos cpos : Pos} {T id : String} {r : V → List V → Hp → VK → Prop} (K : PySem.W.Frag) (pa : PlainAttrs T) (slot : Slot T name id) (hty : typeOf (.builtin id) = pure (.type "method_descriptor")) (hm : RMt X id r) (ho : QE X o to)
    (hbase : attributeBase o name X.env (eval o X.env) = eval o X.env := by rfl) (hline : (apos.endLine == cpos.line) = true := by rfl) (hK : X.K = K := by rfl) : QE X (.Call (.Attribute o name apos) [] [] cpos) (tBM0 K T r to) := .mk (kBm0 K pa slot hty hm.un ho.un hbase hline hK)
theorem tcmp {op : CmpOp} {r : R2} (ho : ROp X (compareOp op) r) (ha : QE X a ta) (hb : QE X b tb) (hm : behindInMarks op b = false) : QT X (.Compare a [op] [b] pos) (tTest (tOp r ta tb)) := .mk (pt_cmpR ho.un ha.un hb.un hm)
theorem ttru (K : PySem.W.Frag) (ha : QE X a ta) (he : ∀ whole, isTrue a X.env whole = (do let v ← whole; standAt a.pos; holding [v] (truthy v))) (hK : X.K = K := by rfl) : QT X a (tTru K ta) := .mk (kTru K ha.un he hK)
theorem tnot (ha : QT X a tA) : QT X (.UnaryOp .Not a pos) (tNot tA) := .mk (pt_not ha.un)
theorem wand1 (ha : QT X a tA) : QW X (.BoolOp .And [a] pos) tA := .mk (pw_and1 ha.un)
theorem wor1 (ha : QT X a tA) : QW X (.BoolOp .Or [a] pos) tA := .mk (pw_or1 ha.un)
theorem wand (ha : QT X a tA) (hb : QW X (.BoolOp .And (b :: rest) pos) tB') : QW X (.BoolOp .And (a :: b :: rest) pos) (tAnd tA tB') := .mk (pw_and ha.un hb.un)
theorem wor (ha : QT X a tA) (hb : QW X (.BoolOp .Or (b :: rest) pos) tB') : QW X (.BoolOp .Or (a :: b :: rest) pos) (tOr tA tB') := .mk (pw_or ha.un hb.un)
theorem QW.tst (h : QW X a tA) : QT X a tA := .mk h.un.pt
theorem gname {i : Nat} {x : Str} (hN : X.N.Nodup) (hi : X.N[i]? = some x) (hx : Loc X.env.scope x) (hf : X.fn x = true ∨ X.env.scope.names.lookup x = some .local := by first | exact .inl rfl | exact .inr rfl | assumption) : QG X (.Name x pos) (gName i) := .mk (pg_name hN hi hx hf)
theorem gsnil : QGs X [] gNil := .mk pgs_nil
theorem gscons {t : TG} {u : TGs} (h1 : QG X e t) (h2 : QGs X es u) (hs : (assignEach (e :: es) X.env).map (·.2) = assign e X.env :: (assignEach es X.env).map (·.2) := by rfl) : QGs X (e :: es) (gCons t u) := .mk (pgs_cons h1.un h2.un hs)
theorem gsub {i : Expr} {ti : TE} {t : TSet} (ho : QE X o to) (hi : QE X i ti) (hs : RSet X t) 
    (ha : ∀ v, assign (.Subscript o i pos) X.env v = (do
      let ov ← holding [v] (eval o X.env)
      let iv ← holding [v, ov] (eval i X.env)
      standAt pos
      holding [v, ov, iv] (setItem ov iv v)
      release [v, ov, iv] []) := by intro _; rfl) : QG X (.Subscript o i pos) (gSub to ti t) := .mk (pg_sub ho.un hi.un hs.un ha)
theorem iseq {tg : Expr} (K : PySem.W.Frag) (hl : QE X l tl) (hK : X.K = K := by rfl) : QI X tg l (iSeq K tl) := .mk (kSeq K hl.un hK)
theorem irange1 {tg : Expr} {ta : TA} {p pos : Pos} (hg : Gl X "range") (hm : X.mg "range" = none) (ha : QA X [a] ta) (h : notStar a = true := by rfl) : QI X tg (.Call (.Name "range" p) [a] [] pos) (iRng1 ta) := .mk (iRange1 hg hm ha.un h)
theorem csnil : QTs X [] tT0 := .mk pts_nil
theorem csone (h : QT X c tA) : QTs X [c] tA := .mk (pts_one h.un)
theorem qcomp {elt target iter : Expr} {ifs : List Expr} {scope : Scope} {pos : Pos} {wi : TI} {g : TG} {tt : TT} {te : TE} {sc : Scope} {NX : List Str} (N' : List Str) (cs : List (Option Nat)) (hc : X.calm = true)
    (hi : QI X target iter wi) (hg : ∀ fp s3 H3, QG (cxC X N' scope fp s3 H3) target g) (ht : ∀ fp s3 H3, QTs (cxC X N' scope fp s3 H3) ifs tt) (he : ∀ fp s3 H3, QE (cxC X N' scope fp s3 H3) elt te)
    (hsc : X.env.scope = sc) (hN : X.N = NX) (hcs : csOk sc NX N' cs scope = true) (hs : ∀ x, foldedSetIterable iter X.env x = pure x := by intro _; rfl) :
    QE X (.ListComp elt [⟨target, iter, ifs, 0⟩] scope pos) (tComp cs wi g tt te) :=
  .mk (pe_comp N' cs hc hi.un (fun fp s3 H3 => (hg fp s3 H3).un) (fun fp s3 H3 => (ht fp s3 H3).un) (fun fp s3 H3 => (he fp s3 H3).un) hsc hN hcs hs)
variable {st : Stmt} {sts : List Stmt} {t1 t2 : TS}
theorem bnil : QSs X [] tNext := .mk pss_nil
theorem bcons (h1 : QS X st t1) (h2 : QSs X sts t2) : QSs X (st :: sts) (tSeq t1 t2) := .mk (pss_cons h1.un h2.un)
theorem bone (h1 : QS X st t1) : QSs X [st] t1 := .mk (pss_one h1.un)
theorem sexpr (he : QE X e te) (hs : swapsWith e none pos.line X.env = pure false := by rfl) : QS X (.Expr e pos) (tDrop te) := .mk (ps_expr he.un hs)
theorem sret (he : QE X e te) : QS X (.Return (some e) pos) (tRet te) := .mk (ps_ret he.un)
theorem sif {c : Expr} {a b : List Stmt} {tc : TT} (hc : QT X c tc) (ha : QSs X a t1) (hb : QSs X b t2) : QS X (.If c a b pos) (tIfS tc t1 t2) := .mk (ps_if hc.un ha.un hb.un)
theorem sset {i : Nat} {x : Str} {pos' : Pos} (hN : X.N.Nodup) (hi : X.N[i]? = some x) (hx : Loc X.env.scope x) (he : QE X e te) (hs : swapsWith e (some (.Name x pos')) pos.line X.env = pure false := by rfl) (hf : X.fn x = true ∨ X.env.scope.names.lookup x = some .local := by first | exact .inl rfl | exact .inr rfl | assumption) :
    QS X (.Assign [.Name x pos'] e pos) (tAsg te (gName i)) := .mk (ps_set hN hi hx he.un hs hf)
theorem sasg {tg : Expr} {g : TG} (he : QE X e te) (hg : QG X tg g) (hs : swapsWithSole [tg] e pos.line X.env = pure false := by rfl) (hw : swappedStores [tg] e X.env = pure none := by rfl)
    (h1 : (assignEach [tg] X.env).map (·.2) = [assign tg X.env] := by rfl) : QS X (.Assign [tg] e pos) (tAsg te g) := .mk (ps_asg he.un hg.un hs hw h1)
theorem sfor {tg iter : Expr} {body : List Stmt} {wi : TI} {g : TG} {tb : TS} (hp : PassesOwn (model X.prog X.w) X.A X.env X.xe) (hc : X.calm = true) (hi : QI X tg iter wi) (hg : QG X tg g) (hb : QSs X body tb)
    (hs : ∀ x, foldedSetIterable iter X.env x = pure x := by intro _; rfl) : QS X (.For tg iter body [] pos) (tFor wi g tb) := .mk (ps_for hp hc hi.un hg.un hb.un hs)
theorem swhile {c : Expr} {body : List Stmt} {tc : TT} {tb : TS} (hp : PassesOwn (model X.prog X.w) X.A X.env X.xe) (hc : QT X c tc) (hb : QSs X body tb) : QS X (.While c body [] pos) (tWhile tc tb) := .mk (ps_while hp hc.un hb.un)
end
theorem split {X : Cx} {body : List Stmt} {D : Ends} {σ : St} {H : Hp} (n : Nat) (M : St → Hp → Prop) (h2 : ∃ t, QSs X (body.drop n) t ∧ ∀ σ' H', M σ' H' → t D σ' H')
    (h1 : ∀ u, QSs X (body.drop n) u → (∀ σ' H', M σ' H' → u D σ' H') → ∃ t, QSs X body t ∧ t D σ H) : ∃ t, QSs X body t ∧ t D σ H := by
  obtain ⟨t, p, q⟩ := h2
  exact h1 t p q
theorem Fd.cal {P : Program} {w : World} {K : PySem.W.Frag} {mg : Str → Option Value} {base : Heap} {x : Str} {st : Stmt} {f : Addr} {N ps : List Str} {k : Nat} {sp : Sp} (F : Fd K mg x st f) (S : FnScope N ps (defScope st))
    (hb : ∀ (kV doc pm : Value) (an : Option Addr) (cdv ct : Value) (us : List Value), us.length = ps.length → bindArgs (PySem.W.fnOf x x (defArgs st) (defBody st) (defScope st) .none kV doc pm an cdv ct) ⟨us, []⟩ = pure (ps.zip us))
    (len : ∀ vs H Q E, sp vs H Q E → vs.length = ps.length)
    (hbody : ∀ (cdv : Value) (A : Around) (outer : List Env) (s : Shared) (H : Hp) (vs : List V) (Q : VK) (E : XK), Room k (A.deeper (envOfC x (defScope st) s.heap.objs.size f cdv)) → sp vs H Q E →
      ∃ t, QSs (cxOf CX0 P w K mg base N x (defScope st) f cdv A outer s H E).nox (defBody st) t ∧ t { nx := fun _ H' => Q .non H', rt := Q } (start N vs) H) : Cal P w K mg base CX0 (k + 1) x sp := by
  obtain ⟨⟨fd, F1⟩, F2⟩ := F
  refine ⟨f, fd, ps, F1.ok S len (fun cdv A outer s H vs Q E hr h => ?_), F2, F1.kp, F1.binds hb⟩
  obtain ⟨t, p, q⟩ := hbody cdv A outer s H vs Q E hr h
  exact ⟨t, p.un, q⟩
end L3
namespace L3
open PySem L2
noncomputable def D.ty : D → String
  | .non => "NoneType"
  | .bl _ => "bool"
  | .int _ => "int"
  | .str _ => "str"
  | .tup _ => "tuple"
  | .lst _ => "list"
  | .emp => "dict"
theorem Rep.ty {K : PySem.W.Frag} {H : Hp} {v : V} {e : D} (h : Rep H v e) : TyOf K H v (.type e.ty) := by
  cases h with
  | non => exact .non
  | bl b => exact .bl b
  | int i => exact .int i
  | str x => exact .str x
  | tup e _ => exact .tup e
  | lst e _ => exact .lst e
  | emp e => exact .dK e
noncomputable def D.isTup : D → Bool
  | .tup _ => true
  | _ => false
noncomputable def D.isLst : D → Bool
  | .lst _ => true
  | _ => false
noncomputable def D.isBl : D → Bool
  | .bl _ => true
  | _ => false
noncomputable def D.isStr : D → Bool
  | .str _ => true
  | _ => false
noncomputable def D.isNum : D → Bool
  | .int _ => true
  | .bl _ => true
  | _ => false
theorem kit_tuple (K : PySem.W.Frag) : ∀ e : D, PySem.W.kitOne K (.type e.ty) (.type "tuple") = some e.isTup
  | .non => by kernel_rfl
  | .bl _ => by kernel_rfl
  | .int _ => by kernel_rfl
  | .str _ => by kernel_rfl
  | .tup _ => by kernel_rfl
  | .lst _ => by kernel_rfl
  | .emp => by kernel_rfl
theorem kit_list (K : PySem.W.Frag) : ∀ e : D, PySem.W.kitOne K (.type e.ty) (.type "list") = some e.isLst
  | .non => by kernel_rfl
  | .bl _ => by kernel_rfl
  | .int _ => by kernel_rfl
  | .str _ => by kernel_rfl
  | .tup _ => by kernel_rfl
  | .lst _ => by kernel_rfl
  | .emp => by kernel_rfl
theorem kit_int (K : PySem.W.Frag) : ∀ e : D, PySem.W.kitOne K (.type e.ty) (.type "int") = some e.isNum
  | .non => by kernel_rfl
  | .bl _ => by kernel_rfl
  | .int _ => by kernel_rfl
  | .str _ => by kernel_rfl
  | .tup _ => by kernel_rfl
  | .lst _ => by kernel_rfl
  | .emp => by kernel_rfl
theorem kit_bool (K : PySem.W.Frag) : ∀ e : D, PySem.W.kitOne K (.type e.ty) (.type "bool") = some e.isBl
  | .non => by kernel_rfl
  | .bl _ => by kernel_rfl
  | .int _ => by kernel_rfl
  | .str _ => by kernel_rfl
  | .tup _ => by kernel_rfl
  | .lst _ => by kernel_rfl
  | .emp => by kernel_rfl
theorem kit_str (K : PySem.W.Frag) : ∀ e : D, PySem.W.kitOne K (.type e.ty) (.type "str") = some e.isStr
  | .non => by kernel_rfl
  | .bl _ => by kernel_rfl
  | .int _ => by kernel_rfl
  | .str _ => by kernel_rfl
  | .tup _ => by kernel_rfl
  | .lst _ => by kernel_rfl
  | .emp => by kernel_rfl
end L3
namespace L3
open PySem L2
end L3
namespace L3
open PySem L2 PyProof.Rows
theorem okQ {P : Program} {w : World} {K : PySem.W.Frag} {mg : Str → Option Value} {base : Heap} {x : Str} {st : Stmt} {f : Addr} {fd : FuncData} {N ps : List Str} {k : Nat} {sp : Sp} (F : Fun K x x st f fd) (S : FnScope N ps (defScope st))
    (len : ∀ vs H Q E, sp vs H Q E → vs.length = ps.length)
    (hbody : ∀ (cdv : Value) (A : Around) (outer : List Env) (s : Shared) (H : Hp) (vs : List V) (Q : VK) (E : XK), Room k (A.deeper (envOfC x (defScope st) s.heap.objs.size f cdv)) → sp vs H Q E →
      ∃ t, QSs (cxOf CX0 P w K mg base N x (defScope st) f cdv A outer s H E).nox (defBody st) t ∧ t { nx := fun _ H' => Q .non H', rt := Q } (start N vs) H) : FnOk P w K mg base CX0 (k + 1) f fd ps sp := by
  refine F.ok S len (fun cdv A outer s H vs Q E hr h => ?_)
  obtain ⟨t, p, q⟩ := hbody cdv A outer s H vs Q E hr h
  exact ⟨t, p.un, q⟩
end L3
namespace L3
open PySem PySem.Spec PyProof.Rows L2
section
variable {X : Cx}
noncomputable def CDivB (i j : Int) : Prop := 0 < j ∧ j < 2 ^ 1000
theorem op_fdivB : OpR X (binaryOp .FloorDiv) (rI CDivB fun i j => .int (i / j)) := opI fun i j _ _ _ _ _ hc q => by
  refine floordiv_int (by have := hc.1; lia) (by rw [Int.fdiv_eq_ediv_of_nonneg _ (Int.le_of_lt hc.1)]; exact q) (.inl (PyProof.noPylong_of_log2 ?_))
  by_cases h0 : j.natAbs = 0
  · rw [h0]; decide +kernel
  · have : j.natAbs < 2 ^ 1000 := by have := hc.1; have := hc.2; lia
    exact Nat.lt_trans ((Nat.log2_lt h0).mpr this) (by decide)
theorem rDivB : ROp X (binaryOp .FloorDiv) (rI CDivB fun i j => .int (i / j)) := .mk op_fdivB
noncomputable def rSumL (K : PySem.W.Frag) : List V → Hp → VK → Prop := fun xs H Q => ∃ (p : Addr) (ns : List Int), xs = [.ref p] ∧ SqL K H p (ns.map V.int) ∧ Q (.int ns.sum) H
theorem call_sumL (hc : X.calm = true) : CallR X (.builtin "sum") (rSumL X.K) := by
  intro pins s σ H xs us Q I rv h
  obtain ⟨p, ns, rfl, hp, q⟩ := h
  obtain ⟨u, rfl, ru⟩ := vals1 rv
  cases ru
  obtain ⟨its, r, pl, hz⟩ := I.list hp
  have hi := intsAre_of r
  obtain ⟨ys, e⟩ := hi.allInts.items
  have hns : ns = ys.toList.map (·.1) := by rw [← hi.numsOf, ← nums_intItems, ← e]
  have hl := pl.isList
  rw [e] at hl
  refine sum_intListG (I.ok.hd hc) hl fun h' tk t' hk => ?_
  refine ⟨.int ns.sum, H, I.kept hk, ⟨t', ?_⟩, q⟩
  rw [preSum_eq, hns, List.take_of_length_le (by rw [List.length_map, Array.length_toList]; exact Nat.le_refl _)]
noncomputable def rAllB (K : PySem.W.Frag) : List V → Hp → VK → Prop := fun xs H Q => ∃ (p : Addr) (bs : List Bool), xs = [.ref p] ∧ SqL K H p (bs.map V.bl) ∧ Q (.bl (bs.all id)) H
theorem all_range : ∀ (bs : List Bool), (List.range bs.length).all (fun i => bs.getD i true) = bs.all id
  | [] => rfl
  | b :: r => by
    rw [List.length_cons, List.range_succ_eq_map, List.all_cons, List.all_map, List.all_cons]
    have := all_range r
    congr 1
theorem call_allB (hc : X.calm = true) : CallR X (.builtin "all") (rAllB X.K) := by
  intro pins s σ H xs us Q I rv h
  obtain ⟨p, bs, rfl, hp, q⟩ := h
  obtain ⟨u, rfl, ru⟩ := vals1 rv
  cases ru
  obtain ⟨its, r, pl, hz⟩ := I.list hp
  have hlen := r.length
  rw [List.length_map] at hlen
  have hlt : p < s.heap.objs.size := by obtain ⟨_, e, _⟩ := pl.isList; exact Heap.lt_size e
  refine call_all_walk (wpAny_pyIter_list pl.isList ?_)
  refine ⟨s.heap.objs.size, _, _, _, _, _, fun i => bs.getD i true, rfl, Walks.list (A := X.A.in1) (I.ok.hd hc) _ p (Nat.ne_of_lt hlt) its.toArray, ⟨⟨_, Heap.get?_push_size _ rfl, rfl, rfl⟩, pl.isList.push _⟩, ?_, fun h' tk hk => ?_⟩
  · intro i v s' Q' E' hP hQ
    have hP : its[i]? = some v := by simpa using hP
    have hi : i < its.length := (List.getElem?_eq_some_iff.mp hP).1
    have e1 : (bs.map V.bl)[i]? = some (V.bl (bs[i]'(by lia))) := by
      rw [List.getElem?_map, List.getElem?_eq_getElem (by lia)]; rfl
    obtain ⟨u, hu, ru⟩ := r.get e1
    rw [hP] at hu
    cases hu
    cases (show v = Value.bool _ from ru)
    refine wpAny_truthy_bool ?_
    have e2 : bs.getD i true = bs[i]'(by lia) := by rw [List.getD_eq_getElem?_getD, List.getElem?_eq_getElem (by lia)]; rfl
    rw [← e2]; exact hQ
  · refine ⟨.bl (bs.all id), H, ?_, ?_, q⟩
    · exact I.kept (t' := tk) fun b o e => hk b o (by simp; exact Nat.ne_of_lt (Heap.lt_size e)) (Heap.get?_push_of_some _ e)
    · show Value.bool _ = Value.bool _
      rw [List.size_toArray, ← hlen, all_range]
theorem fSum (K : PySem.W.Frag) (hc : X.calm = true := by rfl) (hK : X.K = K := by rfl) : RCall X (.builtin "sum") (rSumL K) := by subst hK; exact .mk (call_sumL hc)
theorem fAll (K : PySem.W.Frag) (hc : X.calm = true := by rfl) (hK : X.K = K := by rfl) : RCall X (.builtin "all") (rAllB K) := by subst hK; exact .mk (call_allB hc)
noncomputable def rMax2 : List V → Hp → VK → Prop := fun xs H Q => ∃ i j, xs = [.int i, .int j] ∧ Q (.int (if j > i then j else i)) H
theorem fMax2 (hc : X.calm = true := by rfl) : RCall X (.builtin "max") rMax2 := .mk (call_max2 hc)
end
end L3
namespace HT
open PySem PyProof.Rows
section
open PySem.SeqAt
open PySem.AutoSeq1 (wpAny_loadPart')
open PySem.MeetsSeq PySem.MeetsSeq2 PySem.MeetsSeq3
end
section
variable {prog : Program} {w : World} {A : Around} {E : Value → Shared → Prop} {s : Shared}
end
end HT
namespace L3
open PySem PySem.Spec PyProof.Rows L2
section
variable {X : Cx}
theorem vals_of_ints : ∀ {us : List Value} {ns : List Int}, IntsAre us ns → Vals (ns.map V.int) us
  | _, _, .nil => .nil
  | _, _, .cons n t r => .cons ⟨t, rfl⟩ (vals_of_ints r)
end
end L3
namespace HT
open PySem PyProof.Rows
section
variable {prog : Program} {w : World} {A : Around} {R : Result → Shared → Prop} {I : Addr} {fp wr : List Addr} {n : Nat} {P : Nat → Value → Prop} {St : Nat → Heap → Prop} {K : Type} [DecidableEq K] {knd : KeyKind prog w K}
end
section
variable {prog : Program} {w : World} {A : Around} {E : Value → Shared → Prop} {s : Shared} {K : Type} [DecidableEq K] {knd : KeyKind prog w K}
end
end HT
namespace L3
open PySem PySem.Spec PyProof.Rows L2
section
variable {X : Cx}
end
end L3
namespace L3
open PySem PySem.Spec PyProof.Rows L2
section
variable {X : Cx} {pins : List (Addr × Obj)} {σ : L2.St} {H : Hp} {s : Shared} {h' : Heap}
end
section
variable {X : Cx}
end
end L3
namespace L3
open PySem PySem.Spec PyProof.Rows L2
section
variable {X : Cx}
variable {o e f : Expr} {apos cpos : Pos} {td ty tx : TE} {k : Nat} {A : Around}
end
end L3
namespace L3
open PySem PySem.Spec PyProof.Rows L2
section
variable {X : Cx} {tg : Expr}
variable {g : TG} {tt : TT} {te : TE} {acc : Addr} {σ0 : L2.St} {H0 : Hp} {Q : Hp → Prop}
end
end L3
namespace L3
open PySem PySem.Spec PyProof.Rows L2
section
variable {X : Cx}
noncomputable def rMin2 : List V → Hp → VK → Prop := fun xs H Q => ∃ i j, xs = [.int i, .int j] ∧ Q (.int (if j < i then j else i)) H
theorem fMin2 (hc : X.calm = true := by rfl) : RCall X (.builtin "min") rMin2 := .mk (call_min2 hc)
noncomputable def rRepN : R2 := fun x y H Q => ∃ l k xs, x = .ref l ∧ y = .int k ∧ H l = some (.lst xs) ∧ 0 ≤ k ∧ k < 2 ^ 63 ∧ xs.length * k.toNat ≤ sizeLine ∧ New H (.lst (List.replicate k.toNat xs).flatten) Q
theorem op_repN : OpR X (binaryOp .Mult) rRepN := by
  intro pins s σ H x y v u Q I rx ry h
  obtain ⟨l, k, xs, rfl, rfl, hH, h1, h2, hz, q⟩ := h
  exact op_rep pins s σ H _ _ v u Q I rx ry ⟨l, k, xs, rfl, rfl, hH, by lia, h2, hz, fun p hp => q.at hp⟩
theorem rMulL : ROp X (binaryOp .Mult) rRepN := .mk op_repN
end
section
variable {X : Cx}
end
end L3
namespace L3
open PySem PySem.Spec PyProof.Rows L2
section
variable {X : Cx} {pins : List (Addr × Obj)} {σ : L2.St} {H : Hp} {s : Shared} {a : Addr} {y d : V} {u r : Value} {o : Option V} {A : Around} {E : Value → Shared → Prop}
end
section
variable {X : Cx} {o e f : Expr} {apos cpos : Pos} {td ty tx : TE}
variable {k : Nat} {A : Around}
end
section
variable {X : Cx} {pos : Pos} {kx vx : Expr} {ks : List (Option Expr)} {vs : List Expr} {tk tv : TE} {trs : List (TE × TE)}
end
end L3
namespace L3
open PySem PySem.Spec PyProof.Rows L2
section
variable {X : Cx}
variable {a b : Expr} {ta tb : TE} {pos : Pos} {k : Nat} {A : Around}
end
end L3
namespace L3
open PySem PySem.Spec PyProof.Rows L2
section
variable {X : Cx}
end
end L3
namespace L3
open PySem PySem.Spec PyProof.Rows L2
section
variable {X : Cx}
end
end L3
namespace L3
open PySem PySem.Spec PyProof.Rows L2
section
variable {X : Cx}
end
section
variable {prog : Program} {w : World} {A : Around} {E : Value → Shared → Prop} {s : Shared}
end
end L3
namespace L3
open PySem PySem.Spec PyProof.Rows L2
section
variable {prog : Program} {w : World} {A : Around} {E : Value → Shared → Prop} {s : Shared}
end
end L3
namespace L3
open PySem PySem.Spec PyProof.Rows L2
section
variable {X : Cx}
end
end L3
namespace L3
open PySem PySem.Spec PyProof.Rows L2
section
variable {X : Cx}
end
end L3
namespace L3
open PySem PySem.Spec PyProof.Rows L2
section
variable {prog : Program} {w : World} {A : Around}
variable {R : Result → Shared → Prop} {it : Addr} {fp wr : List Addr} {n : Nat} {P : Nat → Value → Prop} {St : Nat → Heap → Prop} {kw : List (Str × Value)}
end
section
variable {X : Cx}
end
end L3
namespace HT
open PySem PyProof.Rows
section
variable {prog : Program} {w : World} {A : Around} {E : Value → Shared → Prop} {s : Shared}
end
end HT
namespace HT
open PySem PyProof.Rows
section
variable {prog : Program} {w : World} {A : Around} {E : Value → Shared → Prop} {s : Shared}
variable {R : Result → Shared → Prop} {K : Type} [DecidableEq K] {knd : KeyKind prog w K}
end
end HT
namespace L3
open PySem PySem.Spec PyProof.Rows L2
section
variable {X : Cx}
end
end L3
namespace L3
open PySem PySem.Spec PyProof.Rows L2
section
variable {X : Cx}
end
end L3
namespace L3
open PySem PySem.Spec PyProof.Rows L2
section
variable {X : Cx} {tg : Expr}
variable {g : TG} {tt : TT} {te : TE} {acc : Addr} {σ0 : L2.St} {H0 : Hp} {Q : Hp → Prop}
end
end L3
namespace L3
open PySem PySem.Spec PyProof.Rows L2
section
variable {X : Cx}
end
end L3
namespace L3
open PySem PySem.Spec PyProof.Rows L2
theorem met_nodup (val : Nat → Int) : ∀ i, (firstMet val i).Nodup
  | 0 => by rw [firstMet_zero]; exact List.nodup_nil
  | i + 1 => by
    rw [firstMet_succ]
    have ih := met_nodup val i
    unfold step_dedup
    split
    · exact ih
    · rename_i h
      refine List.nodup_append.mpr ⟨ih, by simp, fun a ha b hb => ?_⟩
      rw [List.mem_singleton] at hb
      intro e
      apply h
      rw [List.any_eq_true]
      exact ⟨a, ha, by rw [e, hb]; simp⟩
theorem range_getD (ns : List Int) : (List.range ns.length).map (fun i => ns.getD i 0) = ns := by
  apply List.ext_getElem
  · simp
  · intro i h1 h2
    rw [List.getElem_map, List.getElem_range, List.getD_eq_getElem?_getD, List.getElem?_eq_getElem h2]; rfl
section
variable {X : Cx}
end
end L3
namespace L3
open PySem PySem.Spec PyProof.Rows L2
section
variable {X : Cx}
end
end L3
namespace L3
open PySem PySem.Spec PyProof.Rows L2
theorem sub_len : ∀ {xs P : List Int}, xs.Nodup → (∀ x ∈ xs, x ∈ P) → xs.length ≤ P.length
  | [], _, _, _ => Nat.zero_le _
  | x :: xs, P, hn, hs => by
    have hx := hs x (List.mem_cons_self ..)
    have hn' := List.nodup_cons.mp hn
    have h1 := sub_len (xs := xs) (P := P.erase x) hn'.2 fun y hy => (List.mem_erase_of_ne (fun e => hn'.1 (by rw [← e]; exact hy))).mpr (hs y (List.mem_cons_of_mem _ hy))
    rw [List.length_erase_of_mem hx] at h1
    have := List.length_pos_of_mem hx
    rw [List.length_cons]; lia
theorem sub_full : ∀ {ns l : List Int}, l.Nodup → (∀ x ∈ l, x ∈ ns) → l.length = ns.length → ns.Nodup
  | [], _, _, _, _ => List.nodup_nil
  | x :: ns, l, hn, hs, hl => by
    rw [List.length_cons] at hl
    have hx : x ∉ ns := fun z => by
      have := sub_len (P := ns) hn fun y hy => by
        rcases List.mem_cons.mp (hs y hy) with e | e
        · rw [e]; exact z
        · exact e
      lia
    have hxl : x ∈ l := Classical.byContradiction fun z => by
      have := sub_len (P := ns) hn fun y hy => by
        rcases List.mem_cons.mp (hs y hy) with e | e
        · exact absurd (by rw [← e]; exact hy) z
        · exact e
      lia
    refine List.nodup_cons.mpr ⟨hx, sub_full (l := l.erase x) (hn.erase x) (fun y hy => ?_) ?_⟩
    · have h1 := (List.Nodup.mem_erase_iff hn).mp hy
      exact (List.mem_cons.mp (hs y h1.2)).resolve_left h1.1
    · rw [List.length_erase_of_mem hxl]; lia
theorem met_all (ns : List Int) : (firstMet (fun i => ns.getD i 0) ns.length).length ≤ ns.length ∧ ((firstMet (fun i => ns.getD i 0) ns.length).length = ns.length ↔ ns.Nodup) := by
  have hm : ∀ k, k ∈ firstMet (fun i => ns.getD i 0) ns.length ↔ k ∈ ns := fun k => by
    have := firstMet_any (fun i => ns.getD i 0) ns.length k
    rw [range_getD] at this
    have key : ∀ l : List Int, l.any (· == k) = true ↔ k ∈ l := fun l => by
      rw [List.any_eq_true]
      constructor
      · rintro ⟨x, hx, e⟩
        rw [← eq_of_beq e]; exact hx
      · intro h; exact ⟨k, h, by simp⟩
    rw [← key, ← key, this]
  have hn := met_nodup (fun i => ns.getD i 0) ns.length
  generalize firstMet (fun i => ns.getD i 0) ns.length = l at hm hn
  have h1 := sub_len (P := ns) hn fun y hy => (hm y).mp hy
  refine ⟨h1, fun h => sub_full hn (fun y hy => (hm y).mp hy) h, fun h => ?_⟩
  have := sub_len (P := l) h fun y hy => (hm y).mpr hy
  lia
section
variable {X : Cx}
end
end L3
namespace L3
open PySem PySem.Spec PyProof.Rows L2
section
variable {X : Cx}
noncomputable def rIntT : List V → Hp → VK → Prop := fun xs H Q => ∃ (x : Str) (n : Int), xs = [.str x] ∧ PySem.intText? x = some n ∧ x.length ≤ 640 ∧ Q (.int n) H
theorem call_intT : CallR X (.type "int") rIntT := by
  intro pins s σ H xs us Q I rv h
  obtain ⟨x, n, rfl, hn, hl, q⟩ := h
  obtain ⟨u, rfl, ru⟩ := vals1 rv
  obtain ⟨t, rfl⟩ := ru
  exact PySem.W.KIN.call_text hn hl ⟨.int n, H, I.tok _, ⟨_, rfl⟩, q⟩
theorem fIntT : RCall X (.type "int") rIntT := .mk call_intT
noncomputable def rLenS : List V → Hp → VK → Prop := fun xs H Q => ∃ x : Str, xs = [.str x] ∧ x.length ≤ sizeLine ∧ Q (.int x.length) H
theorem call_lenS : CallR X (.builtin "len") rLenS := by
  intro pins s σ H xs us Q I rv h
  obtain ⟨x, rfl, hl, q⟩ := h
  obtain ⟨u, rfl, ru⟩ := vals1 rv
  obtain ⟨t, rfl⟩ := ru
  have e : sizeLine = 16777216 := sizeLine_eq
  exact len_str (by lia) ⟨.int x.length, H, I.kept (t' := _) (fun b o e => e), ⟨_, rfl⟩, q⟩
theorem fLenS : RCall X (.builtin "len") rLenS := .mk call_lenS
theorem rInS : ROp X (compareOp .In) (fun x y H Q => ∃ i j, x = .str i ∧ y = .str j ∧ Q (.bl (!(Builtin.Str.occurrences j i 0 j.length 1).isEmpty)) H) := .mk op_in_str
theorem qglobS {x : Str} {i : Str} {pos : Pos} (hg : Gl X x) (hm : ∃ tk, X.mg x = some (.str i tk)) (hd : (x == ("__debug__" : Str)) = false := by decide) : QE X (.Name x pos) (tC (.str i)) := by
  obtain ⟨tk, h⟩ := hm
  exact .mk (pe_glob hg h ⟨tk, rfl⟩ hd)
noncomputable def rSlS : V → Option Int → Option Int → Hp → VK → Prop := fun x lo hi H Q => ∃ y : Str, x = .str y ∧ (PySem.StrLaws.sliceText y lo hi).length ≤ sizeLine ∧ Q (.str (PySem.StrLaws.sliceText y lo hi)) H
theorem sl_str : SlR X rSlS := by
  intro pins s σ H x v vl vu lo hi sl Q I rx hs pl pu h
  obtain ⟨y, rfl, hz, q⟩ := h
  obtain ⟨t, rfl⟩ := rx
  have main : ∀ (l u : Option (Int × Tok)), vl = partValue l → vu = partValue u → lo = l.map (·.1) → hi = u.map (·.1) → wpAny (model X.prog X.w) X.A (getItem (.str y t) (.ref sl)) (EP X pins σ Q) X.xe s := by
    intro l u e1 e2 e3 e4
    subst e1 e2 e3 e4
    refine wpAny_getItem_str_slice (l := l) (u := u) (st := none) hs rfl ?_
    unfold PySem.StrLaws.sliceText at hz q
    show (if ((1 : Int) == 1 && (Builtin.Str.strSliceIndices (l.map (·.1)) (u.map (·.1)) 1 y.length).length == y.length) = true then Made.val (.str y t) else Made.str ⟨((Builtin.Str.strSliceIndices (l.map (·.1)) (u.map (·.1)) 1 y.length).filterMap (y.cps[·]?)).toArray⟩).post _ s
    by_cases c : ((1 : Int) == 1 && (Builtin.Str.strSliceIndices (l.map (·.1)) (u.map (·.1)) 1 y.length).length == y.length) = true
    · rw [if_pos c] at hz q
      rw [if_pos c]
      exact ⟨.str y, H, I, ⟨_, rfl⟩, q⟩
    · rw [if_neg c] at hz q
      rw [if_neg c]
      exact ⟨hz, ⟨.str _, H, I.tok _, ⟨_, rfl⟩, q⟩⟩
  refine ⟨"str", _, slot_str_getitem.lookup, typeIs_str s y t, ?_⟩
  cases pl with
  | none =>
    cases pu with
    | none => exact main none none rfl rfl rfl rfl
    | int j t2 => exact main none (some (j, t2)) rfl rfl rfl rfl
  | int i t1 =>
    cases pu with
    | none => exact main (some (i, t1)) none rfl rfl rfl rfl
    | int j t2 => exact main (some (i, t1)) (some (j, t2)) rfl rfl rfl rfl
theorem xSlS : RSl X rSlS := .mk sl_str
noncomputable def rStarts : V → List V → Hp → VK → Prop := fun x vs H Q => ∃ a b : Str, x = .str a ∧ vs = [.str b] ∧ Q (.bl (Txt.startswith a b)) H
theorem mt_starts : MtR X "str.startswith" rStarts := by
  intro pins s σ H x vs v us Q I rx rv h
  obtain ⟨a, b, rfl, rfl, q⟩ := h
  obtain ⟨t, rfl⟩ := rx
  obtain ⟨u, rfl, ru⟩ := rv.one
  obtain ⟨t', rfl⟩ := ru
  exact PySem.SC.startswith ⟨.bl _, H, I, rfl, q⟩
theorem mStarts : RMt X "str.startswith" rStarts := .mk mt_starts
theorem strs_of {ts : List Str} : ∀ {us : List Value}, Vals (ts.map V.str) us → ∃ l : List (Str × Tok), us = strValues l ∧ l.map (·.1) = ts := by
  induction ts with
  | nil => intro us h; cases h; exact ⟨[], rfl, rfl⟩
  | cons x ts ih =>
    intro us h
    cases h with
    | cons r t =>
      obtain ⟨k, rfl⟩ := r
      obtain ⟨l, rfl, e⟩ := ih t
      exact ⟨(x, k) :: l, rfl, by rw [List.map_cons, e]⟩
theorem vals_strs : ∀ (tk : Nat) (ts : List Str), Vals (ts.map V.str) (strsFrom tk ts)
  | _, [] => .nil
  | tk, x :: r => .cons ⟨tk, rfl⟩ (vals_strs (tk + 1) r)
noncomputable def rJoin (K : PySem.W.Frag) : V → List V → Hp → VK → Prop := fun x vs H Q => ∃ (a : Str) (l : Addr) (ts : List Str), x = .str a ∧ vs = [.ref l] ∧ SqL K H l (ts.map V.str) ∧ JoinOk a ts = true ∧ Q (.str (Str.join a ts)) H
theorem mt_join : MtR X "str.join" (rJoin X.K) := by
  intro pins s σ H x vs v us Q I rx rv h
  obtain ⟨a, l, ts, rfl, rfl, hq, hok, q⟩ := h
  obtain ⟨t, rfl⟩ := rx
  obtain ⟨u, rfl, ru⟩ := rv.one
  cases ru
  obtain ⟨its, r, hl, hz⟩ := I.list hq
  obtain ⟨ls, rfl, e⟩ := strs_of r
  refine PySem.SC.join (texts := ts) hl.isList e hok fun t' k => ?_
  exact ⟨.str _, H, I.kept (t' := k) (fun b o e => e), ⟨_, by rw [Txt.join, PySem.StrLaws.glued_eq_join]⟩, q⟩
theorem mJoin (K : PySem.W.Frag) (hK : X.K = K := by rfl) : RMt X "str.join" (rJoin K) := by subst hK; exact .mk mt_join
noncomputable def rSplit : V → List V → Hp → VK → Prop := fun x vs H Q => ∃ a b : Str, x = .str a ∧ vs = [.str b] ∧ (b.length == 0) = false ∧ a.length ≤ sizeLine ∧ (Txt.split a b).length ≤ sizeLine ∧ New H (.lst ((Txt.split a b).map V.str)) Q
theorem mt_split : MtR X "str.split" rSplit := by
  intro pins s σ H x vs v us Q I rx rv h
  obtain ⟨x, y, rfl, rfl, hy, hsz, hsz2, q⟩ := h
  obtain ⟨t, rfl⟩ := rx
  obtain ⟨u, rfl, ru⟩ := rv.one
  obtain ⟨t', rfl⟩ := ru
  have lay : ∀ (tk : Nat) (us : List Value), Vals ((Txt.split x y).map V.str) us → EP X pins σ Q (.ref s.heap.objs.size) { s with toks := tk, heap := s.heap.push { cls := .type "list", data := .seq us.toArray } } := fun tk us r => by
    refine ⟨.ref s.heap.objs.size, _, I.laid (t' := tk) (o := .lst ((Txt.split x y).map V.str)) (fun b ob q => Heap.get?_push_of_some _ q) (Nat.le_refl _) ?_, rfl, q.at (I.hok.fresh (Nat.le_refl _))⟩
    exact ⟨by rw [List.length_map]; exact hsz2, us, 0, r, Heap.get?_push_size _ rfl⟩
  unfold Txt.split at lay hsz2
  by_cases h1 : (decide (x.length < y.length) || decide (Builtin.Str.strKind x < Builtin.Str.strKind y)) = true
  · rw [if_pos h1] at lay
    exact call_meets F.slot_str_split (typeIs_str _ _ _) F.entry_str_split (F.args_str_split_2 _ _) (meets_str_split_cannot_occur x y t t' h1) (lay s.toks [.str x t] (.cons ⟨t, rfl⟩ .nil))
  · rw [if_neg h1] at lay hsz2
    by_cases hf : (Builtin.Str.occurrences x y 0 x.length (x.length + 1)).isEmpty = true
    · rw [if_pos hf] at lay
      exact call_meets F.slot_str_split (typeIs_str _ _ _) F.entry_str_split (F.args_str_split_2 _ _) (meets_str_split_not_found x y t t' (Bool.eq_false_iff.mpr h1) hy hf) (lay s.toks [.str x t] (.cons ⟨t, rfl⟩ .nil))
    · rw [if_neg hf] at lay hsz2
      exact call_meets F.slot_str_split (typeIs_str _ _ _) F.entry_str_split (F.args_str_split_2 _ _) (meets_str_split_sep x y t t' (Bool.eq_false_iff.mpr h1) hy (Bool.eq_false_iff.mpr hf) hsz hsz2) (lay _ _ (vals_strs _ _))
theorem mSplit : RMt X "str.split" rSplit := .mk mt_split
end
noncomputable def Its (x : Str) : It := ⟨fun i _ => i < x.cps.size, fun i H v H' => H' = H ∧ ∃ c, x.cps[i]? = some c ∧ v = .str ⟨#[c]⟩, fun i _ => x.cps.size ≤ i⟩
theorem turn_str {P : Program} {w : World} {K : PySem.W.Frag} {tg : Expr} (x : Str) (t : Tok) (it : Addr) : Turn P w K tg (Its x) [it] it (fun i h => h.IsStrIter it "str_ascii_iterator" x t i) where
  mem := by simp
  obj := fun i h st b hb => by
    have e : b = it := by simpa using hb
    subst e
    obtain ⟨o, e, c, d⟩ := st
    exact ⟨o, e, fun v z => by rw [d] at z; cases z⟩
  keep := fun i h h' st k => let ⟨o, ho, r⟩ := st; ⟨o, k it (by simp) o ho, r⟩
  item := by
    intro X hP hw hK hc i pins s σ H E I hf st hg
    subst hP hw hK
    have hi : x.cps[i]? = some x.cps[i] := Array.getElem?_eq_getElem hg
    obtain ⟨f0, f1, f2, f3, f4, f5⟩ := hf it (by simp)
    refine wpAny_pyNext_ascii_item st hi fun h' st' sb => ?_
    have I1 : Inv X pins σ H { s with heap := h', toks := s.toks + 1 } := I.turned (fun b o hb e => (sb.2 b hb).trans e) f0 f1 f3 f4 f5
    obtain ⟨o, e, c, d⟩ := id st'
    exact ⟨_, rfl, go_of (s := { s with heap := h', toks := s.toks + 1 }) e c d (by decide) ⟨.str ⟨#[x.cps[i]]⟩, H, I1, ⟨_, rfl⟩, ⟨rfl, _, hi, rfl⟩, st', fun b hb => (hf b hb).1⟩⟩
  done := by
    intro X hP hw hK hc i pins s σ H E I hf st hg
    subst hP hw hK
    have hi : x.cps[i]? = none := Array.getElem?_eq_none hg
    obtain ⟨f0, f1, f2, f3, f4, f5⟩ := hf it (by simp)
    exact wpAny_pyNext_ascii_end (I.ok.hd hc) st hi fun h' eb => ⟨rfl, I.turned (t' := s.toks) (fun b o hb e => eb b o hb e) f0 f1 f3 f4 f5⟩
  self := fun _ _ _ _ _ st h => wpAny_pyIter_striter_ascii st h
section
variable {X : Cx} {tg : Expr}
noncomputable def iStr (tl : TE) : TI := fun σ H R => tl σ H fun v H1 => ∃ x : Str, v = .str x ∧ x.cps.all (· < 128) = true ∧ R (Its x) H1
theorem pi_str {l : Expr} {tl : TE} (hl : PE X l tl) : PI X tg l (iStr tl) := by
  intro pins s σ H R I h
  refine thn (hl pins s σ H _ I h) fun v s1 hh => ?_
  obtain ⟨x, H1, I1, r1, q1⟩ := hh
  obtain ⟨y, rfl, ha, q⟩ := q1
  obtain ⟨t, rfl⟩ := r1
  refine wpAny_pyIter_ascii ha ?_
  refine ⟨s1.heap.objs.size, [s1.heap.objs.size], _, _, H1, rfl, I1.kept (t' := s1.toks) fun b o e => Heap.get?_push_of_some _ e, turn_str y t _, ⟨_, Heap.get?_push_size _ rfl, rfl, rfl⟩, fun b hb => ?_, q⟩
  have e : b = s1.heap.objs.size := by simpa using hb
  subst e
  exact I1.fpOk (Nat.le_refl _) (I1.hok.fresh (Nat.le_refl _))
theorem istr {l : Expr} {tl : TE} (hl : QE X l tl) : QI X tg l (iStr tl) := .mk (pi_str hl.un)
end
theorem comp_str {g : TG} {tt : TT} {te : TE} {acc : Addr} {σ0 : L2.St} {H0 : Hp} {Q : Hp → Prop} {x : Str} (Pv : Nat → List V → L2.St → Hp → Prop) (h0 : Pv 0 [] σ0 H0)
    (hs : ∀ i ys c σ H, x.cps[i]? = some c → i < x.cps.size → Pv i ys σ H → g (.str ⟨#[c]⟩) σ H fun σ2 H2 => tt σ2 H2 fun b H3 => if b = true then te σ2 H3 (CPost Pv acc x.cps.size i σ2) else CSkip Pv x.cps.size i σ2 H3)
    (hd : ∀ ys σ H, Pv x.cps.size ys σ H → Q H) : CompW (Its x) g tt te acc σ0 H0 Q := by
  refine ⟨fun i m σ H => m = x.cps.size - i ∧ i ≤ x.cps.size ∧ ∃ ys, Pv i ys σ H, ⟨x.cps.size, by simp, Nat.zero_le _, [], h0⟩, ?_⟩
  rintro i m σ H ⟨rfl, hi, ys, p⟩
  by_cases hlt : i < x.cps.size
  · refine .inr ⟨hlt, fun v H1 y => ?_⟩
    obtain ⟨e, c, hc, rfl⟩ := y
    subst e
    have z := hs i ys c σ _ hc hlt p
    unfold CPost CSkip at z
    exact z
  · have e : i = x.cps.size := by lia
    subst e
    exact .inl ⟨Nat.le_refl _, hd ys σ H p⟩
end L3
namespace L3
open PySem PySem.Spec PyProof.Rows L2 PySem.NumText
noncomputable def num (n : Int) : Str := Str.ofString (toString n)
noncomputable abbrev ls (x : Str) : List Nat := x.cps.toList
theorem ls_ext {a b : Str} (h : ls a = ls b) : a = b := by
  cases a; cases b
  simp only [Str.mk.injEq]
  exact Array.toList_inj.mp h
theorem ls_len (x : Str) : x.length = (ls x).length := by rw [Array.length_toList]; rfl
theorem ls_app (a b : Str) : ls (a ++ b) = ls a ++ ls b := by
  show (a.cps ++ b.cps).toList = _
  simp
noncomputable def figs (m : Nat) : List Nat := (Nat.toDigits 10 m).map Char.toNat
theorem figs_dig (m : Nat) : AllDigits (figs m) := fun c hc => by
  obtain ⟨ch, hch, e⟩ := List.mem_map.mp hc
  rw [← e]
  exact digit_range (Nat.isDigit_of_mem_toDigits (by decide) (by decide) hch)
theorem figs_val (m : Nat) : digitsVal (figs m) = m := PySem.W.KIN.val_back m
theorem figs_len : ∀ (k m : Nat), m < 10 ^ (k + 1) → (figs m).length ≤ k + 1
  | 0, m, h => by
    have h : m < 10 := by simpa using h
    unfold figs
    rw [Nat.toDigits_of_lt_base h]
    exact Nat.le_refl 1
  | k + 1, m, h => by
    unfold figs
    by_cases c : m < 10
    · rw [Nat.toDigits_of_lt_base c]; simp
    · have hm : m % 10 < 10 := Nat.mod_lt m (by decide)
      have t : Nat.toDigits 10 (m / 10) ++ Nat.toDigits 10 (m % 10) = Nat.toDigits 10 (10 * (m / 10) + m % 10) := Nat.toDigits_append_toDigits (by decide) (by lia) hm
      rw [Nat.div_add_mod] at t
      have ih := figs_len k (m / 10) (by
        rw [Nat.div_lt_iff_lt_mul (by decide)]
        rw [Nat.pow_succ] at h
        exact h)
      unfold figs at ih
      rw [List.length_map] at ih ⊢
      rw [← t, List.length_append, Nat.toDigits_of_lt_base hm]
      show _ + 1 ≤ _
      lia
theorem figs_ne (m : Nat) : figs m ≠ [] := by
  intro e
  have := figs_val m
  unfold figs at e
  have h := List.map_eq_nil_iff.mp e
  by_cases c : m < 10
  · rw [Nat.toDigits_of_lt_base c] at h; cases h
  · have hm : m % 10 < 10 := Nat.mod_lt m (by decide)
    have t : Nat.toDigits 10 (m / 10) ++ Nat.toDigits 10 (m % 10) = Nat.toDigits 10 (10 * (m / 10) + m % 10) := Nat.toDigits_append_toDigits (by decide) (by lia) hm
    rw [Nat.div_add_mod, h, Nat.toDigits_of_lt_base hm] at t
    have := congrArg List.length t
    simp at this
theorem num_nat (m : Nat) : ls (num (m : Int)) = figs m := PySem.W.KIN.signs_num m
theorem num_neg (m : Nat) : ls (num (-((m + 1 : Nat) : Int))) = 45 :: figs (m + 1) := by
  unfold num
  show (Str.ofString _).cps.toList = _
  rw [signs_ofString]
  have e : -((m + 1 : Nat) : Int) = Int.negSucc m := rfl
  rw [e]
  show (toString (Int.negSucc m)).toList.map Char.toNat = _
  have e2 : toString (Int.negSucc m) = "-" ++ (Nat.repr (m + 1)) := rfl
  rw [e2, String.toList_append, List.map_append, Nat.toList_repr]
  rfl
theorem num_cases (n : Int) : (∃ m : Nat, n = (m : Int) ∧ ls (num n) = figs m) ∨ ∃ m : Nat, n = -((m + 1 : Nat) : Int) ∧ ls (num n) = 45 :: figs (m + 1) := by
  by_cases h : 0 ≤ n
  · obtain ⟨m, rfl⟩ := Int.eq_ofNat_of_zero_le h
    exact .inl ⟨m, rfl, num_nat m⟩
  · obtain ⟨m, rfl⟩ : ∃ m : Nat, n = -((m + 1 : Nat) : Int) := ⟨(-n).toNat - 1, by lia⟩
    exact .inr ⟨m, rfl, num_neg m⟩
noncomputable def Bd (n : Int) : Prop := n.natAbs < 10 ^ 60
theorem num_signs (n : Int) : ∀ c ∈ ls (num n), c = 45 ∨ (48 ≤ c ∧ c ≤ 57) := by
  intro c hc
  rcases num_cases n with ⟨m, _, e⟩ | ⟨m, _, e⟩
  · rw [e] at hc; exact .inr (figs_dig m c hc)
  · rw [e] at hc
    rcases List.mem_cons.mp hc with h | h
    · exact .inl h
    · exact .inr (figs_dig _ c h)
theorem num_len {n : Int} (h : Bd n) : 1 ≤ (num n).length ∧ (num n).length ≤ 61 := by
  unfold Bd at h
  rw [ls_len]
  rcases num_cases n with ⟨m, rfl, e⟩ | ⟨m, rfl, e⟩
  · have h1 := figs_len 59 m (by simpa using h)
    have h2 := List.length_pos_iff.mpr (figs_ne m)
    rw [e]; lia
  · have h1 := figs_len 59 (m + 1) (by rw [Int.natAbs_neg] at h; exact h)
    rw [e, List.length_cons]; lia
theorem num_log {n : Int} (h : Bd n) : n.natAbs.log2 < 1920 := by
  unfold Bd at h
  by_cases c : n.natAbs = 0
  · rw [c]; decide
  · rw [Nat.log2_lt c]
    exact Nat.lt_of_lt_of_le h (by decide +kernel)
theorem num_reads {n : Int} (h : Bd n) : PySem.intText? (num n) = some n := by
  have hl := (num_len h).2
  rcases num_cases n with ⟨m, rfl, e⟩ | ⟨m, rfl, e⟩
  · have := intText_digits (x := num (m : Int)) (by show AllDigits (ls _); rw [e]; exact figs_dig m) (by show ls _ ≠ []; rw [e]; exact figs_ne m) (by lia)
    rw [this]
    show some ((digitsVal (ls (num (m : Int))) : Nat) : Int) = _
    rw [e, figs_val]
  · have := intText_neg (x := num (-((m + 1 : Nat) : Int))) (cs := figs (m + 1)) e (figs_dig _) (figs_ne _) (by lia)
    rw [this, figs_val]
noncomputable def minus : Str := ⟨#[45]⟩
theorem minus_is : ("-" : Str) = minus := by decide
theorem starts_minus (x : Str) : Txt.startswith x minus = decide ((ls x)[0]? = some 45) := by
  have h := PySem.StrLaws.subAt_one x 45 0
  unfold Txt.startswith
  by_cases c : (ls x)[0]? = some 45
  · obtain ⟨h1, h2⟩ := h.mpr c
    rw [decide_eq_true c]
    show (decide (0 + (⟨#[45]⟩ : Str).length ≤ x.length) && Builtin.Str.subAt x ⟨#[45]⟩ 0) = true
    rw [decide_eq_true h1]
    exact h2
  · rw [decide_eq_false c]
    have := fun z => c (h.mp z)
    rw [Bool.and_eq_false_iff]
    by_cases d : 0 + minus.length ≤ x.length
    · right
      cases e : Builtin.Str.subAt x minus 0 with
      | false => rfl
      | true => exact absurd ⟨d, e⟩ this
    · left; exact decide_eq_false d
noncomputable def bare (n : Int) : Str := if n < 0 then ⟨((ls (num n)).drop 1).toArray⟩ else num n
theorem bare_ls (n : Int) : ls (bare n) = figs n.natAbs := by
  unfold bare
  rcases num_cases n with ⟨m, rfl, e⟩ | ⟨m, rfl, e⟩
  · rw [if_neg (by lia), e]; rfl
  · rw [if_pos (by lia), e, Int.natAbs_neg]; rfl
theorem bare_len {n : Int} (h : Bd n) : 1 ≤ (bare n).length ∧ (bare n).length ≤ 60 := by
  rw [ls_len, bare_ls]
  exact ⟨List.length_pos_iff.mpr (figs_ne _), figs_len 59 _ h⟩
noncomputable def figures : Str := "0123456789"
theorem ascii_of {x : Str} (h : ∀ c ∈ ls x, c < 128) : x.cps.all (· < 128) = true := by
  rw [← Array.all_toList, List.all_eq_true]
  exact fun c hc => decide_eq_true (h c hc)
theorem join_one (s x : Str) : Str.join s [x] = x := rfl
theorem join_two (s x y : Str) (r : List Str) : Str.join s (x :: y :: r) = x ++ s ++ Str.join s (y :: r) := rfl
theorem app_c {c : Nat} : ∀ {a b r r' : List Nat}, c ∉ a → c ∉ b → a ++ c :: r = b ++ c :: r' → a = b ∧ r = r'
  | [], [], _, _, _, _, h => ⟨rfl, by simpa using h⟩
  | [], y :: b, _, _, _, hb, h => by
    rw [List.nil_append, List.cons_append] at h
    injection h with h1 h2
    exact absurd (List.mem_cons.mpr (.inl h1)) hb
  | x :: a, [], _, _, ha, _, h => by
    rw [List.nil_append, List.cons_append] at h
    injection h with h1 h2
    exact absurd (List.mem_cons.mpr (.inl h1.symm)) ha
  | x :: a, y :: b, r, r', ha, hb, h => by
    rw [List.cons_append, List.cons_append] at h
    injection h with h1 h2
    obtain ⟨e1, e2⟩ := app_c (fun z => ha (List.mem_cons_of_mem _ z)) (fun z => hb (List.mem_cons_of_mem _ z)) h2
    exact ⟨by rw [h1, e1], e2⟩
theorem ls_two (c : Nat) (x y : Str) (r : List Str) : ls (Str.join ⟨#[c]⟩ (x :: y :: r)) = ls x ++ c :: ls (Str.join ⟨#[c]⟩ (y :: r)) := by
  rw [join_two, ls_app, ls_app, List.append_assoc]; rfl
theorem split_ne (x y : Str) : Txt.split x y ≠ [] := by
  unfold Txt.split
  split
  · simp
  · split
    · simp
    · intro h
      have := PySem.length_partsBetween x (Builtin.Str.occurrences x y 0 x.length (x.length + 1)) y.length
      rw [h] at this
      cases this
theorem join_ok {s : Str} {ts : List Str} {B : Nat} (hB : ∀ y ∈ ts, y.length ≤ B) (h : ts.length * B + ts.length * s.length ≤ 16777216) : JoinOk s ts = true := by
  unfold JoinOk
  rw [PySem.StrLaws.joinFits hB h]; rfl
theorem join_mem (c : Nat) : ∀ (A : List Str) (d : Nat), d ∈ ls (Str.join ⟨#[c]⟩ A) → d = c ∨ ∃ p ∈ A, d ∈ ls p
  | [], d, h => by cases h
  | [a], d, h => .inr ⟨a, by simp, h⟩
  | a :: a' :: r, d, h => by
    rw [ls_two] at h
    rcases List.mem_append.mp h with h | h
    · exact .inr ⟨a, by simp, h⟩
    · rcases List.mem_cons.mp h with h | h
      · exact .inl h
      · rcases join_mem c (a' :: r) d h with h | ⟨p, hp, hd⟩
        · exact .inl h
        · exact .inr ⟨p, List.mem_cons_of_mem _ hp, hd⟩
theorem join_le (s : Str) (A : List Str) {B : Nat} (hB : ∀ y ∈ A, y.length ≤ B) : (Str.join s A).length ≤ A.length * B + A.length * s.length :=
  Nat.le_trans (PySem.StrLaws.join_length_le s A) (Nat.add_le_add_right (PySem.StrLaws.sumLen_le A hB) _)
end L3
namespace L3
open PySem PySem.Spec PyProof.Rows L2
section
variable {X : Cx}
noncomputable abbrev TJ := L2.St → Hp → Str → VK → Prop
noncomputable def PJ (X : Cx) (es : List Expr) (t : TJ) : Prop :=
  ∀ (pins : List (Addr × Obj)) (s : Shared) (σ : L2.St) (H : Hp) (out : Str) (Q : VK), L2.Inv X pins σ H s → t σ H out Q → wpAny (model X.prog X.w) X.A (joinParts out (evalEach es X.env)) (EP X pins σ Q) X.xe s
@[irreducible] noncomputable def QJ (X : Cx) (es : List Expr) (t : TJ) : Prop := PJ X es t
theorem QJ.un {es : List Expr} {t : TJ} (h : QJ X es t) : PJ X es t := by unfold QJ at h; exact h
theorem QJ.mk {es : List Expr} {t : TJ} (h : PJ X es t) : QJ X es t := by unfold QJ; exact h
noncomputable def tJnil : TJ := fun _ H out Q => out.length ≤ sizeLine ∧ Q (.str out) H
noncomputable def tJstr (x : Str) (t : TJ) : TJ := fun σ H out Q => (out ++ x).length ≤ sizeLine ∧ t σ H (out ++ x) Q
noncomputable def FmtV : V → Str → Prop
  | .str y, x => x = y ∧ y.length ≤ sizeLine
  | .int i, x => x = toString i ∧ i.natAbs.log2 < 1920
  | _, _ => False
noncomputable def tJval (te : TE) (t : TJ) : TJ := fun σ H out Q => te σ H fun v H1 => ∃ y, FmtV v y ∧ (out ++ y).length ≤ sizeLine ∧ t σ H1 (out ++ y) Q
theorem jnil : QJ X [] tJnil := .mk fun pins s σ H out Q I h => joinParts_nil ⟨.str out, H, I.tok _, ⟨_, rfl⟩, h.2⟩ h.1
theorem jstr {x : Str} {k : Nat} {pos : Pos} {es : List Expr} {t : TJ} (hr : QJ X es t) : QJ X (.Constant (.str x) k pos :: es) (tJstr x t) := .mk fun pins s σ H out Q I h =>
  joinParts_cons (Calls.Constant_str ⟨h.1, hr.un pins _ σ H _ Q (I.tok _) h.2⟩)
theorem jval {e : Expr} {pos : Pos} {te : TE} {es : List Expr} {t : TJ} (he : QE X e te) (hr : QJ X es t) : QJ X (.FormattedValue e (-1) none pos :: es) (tJval te t) := .mk fun pins s σ H out Q I h => by
  refine joinParts_cons (FormattedValue_plain (thn (he.un pins s σ H _ I h) fun u s1 hh => ?_))
  obtain ⟨v, H1, I1, r1, y, hf, hz, q⟩ := hh
  cases v with
  | str z =>
    obtain ⟨rfl, hl⟩ := hf
    obtain ⟨t, rfl⟩ := r1
    exact formatField_str (fun t' tk => ⟨hz, hr.un pins _ σ H1 _ Q (I1.kept (t' := tk) (fun b o e => e)) q⟩) hl
  | int i =>
    obtain ⟨rfl, hl⟩ := hf
    obtain ⟨t, rfl⟩ := r1
    exact formatField_int_small hl ⟨hz, hr.un pins _ σ H1 _ Q (I1.kept (t' := _) (fun b o e => e)) q⟩
  | _ => exact hf.elim
noncomputable def tJoined (t : TJ) : TE := fun σ H Q => t σ H Str.empty Q
theorem qjoined {a b : Expr} {es : List Expr} {pos : Pos} {t : TJ} (h : QJ X (a :: b :: es) t) : QE X (.JoinedStr (a :: b :: es) pos) (tJoined t) := .mk fun pins s σ H Q I q =>
  JoinedStr_many (h.un pins s σ H Str.empty Q I q)
noncomputable def rPart : V → List V → Hp → VK → Prop := fun x vs H Q => ∃ a b : Str, x = .str a ∧ vs = [.str b] ∧ (b.length == 0) = false ∧ a.length ≤ sizeLine ∧ New H (.tup [.str (Txt.partition a b).1, .str (Txt.partition a b).2.1, .str (Txt.partition a b).2.2]) Q
theorem mt_part : MtR X "str.partition" rPart := by
  intro pins s σ H x vs v us Q I rx rv h
  obtain ⟨x, y, rfl, rfl, hy, hsz, q⟩ := h
  obtain ⟨t, rfl⟩ := rx
  obtain ⟨u, rfl, ru⟩ := rv.one
  obtain ⟨t', rfl⟩ := ru
  have lay : ∀ (tk : Nat) (us : List Value), Vals [.str (Txt.partition x y).1, .str (Txt.partition x y).2.1, .str (Txt.partition x y).2.2] us → EP X pins σ Q (.ref s.heap.objs.size) { s with toks := tk, heap := s.heap.push { cls := .type "tuple", data := .seq us.toArray } } := fun tk us r => by
    refine ⟨.ref s.heap.objs.size, _, I.laid (t' := tk) (o := .tup _) (fun b ob q => Heap.get?_push_of_some _ q) (Nat.le_refl _) ?_, rfl, q.at (I.hok.fresh (Nat.le_refl _))⟩
    exact ⟨(show 3 ≤ sizeLine by decide), us, r, ⟨_, Heap.get?_push_size _ rfl, rfl, _, rfl⟩⟩
  refine call_meets F.slot_str_partition (typeIs_str _ _ _) F.entry_str_partition (F.args_str_partition_2 _ _) (meets_str_partition x y t t' hy hsz) ?_
  unfold Txt.partition at lay
  revert lay
  cases Builtin.Str.occurrences x y 0 x.length 1 with
  | nil => intro lay; exact lay _ _ (.cons ⟨_, rfl⟩ (.cons ⟨_, rfl⟩ (.cons ⟨_, rfl⟩ .nil)))
  | cons i r => intro lay; exact lay _ _ (.cons ⟨_, rfl⟩ (.cons ⟨_, rfl⟩ (.cons ⟨_, rfl⟩ .nil)))
theorem mPart : RMt X "str.partition" rPart := .mk mt_part
noncomputable def rCount : V → List V → Hp → VK → Prop := fun x vs H Q => ∃ a b : Str, x = .str a ∧ vs = [.str b] ∧ Q (.int (Txt.count a b)) H
theorem mt_count : MtR X "str.count" rCount := by
  intro pins s σ H x vs v us Q I rx rv h
  obtain ⟨a, b, rfl, rfl, q⟩ := h
  obtain ⟨t, rfl⟩ := rx
  obtain ⟨u, rfl, ru⟩ := rv.one
  obtain ⟨t', rfl⟩ := ru
  exact PySem.SC.count ⟨.int _, H, I.tok _, ⟨_, rfl⟩, q⟩
theorem mCount : RMt X "str.count" rCount := .mk mt_count
end
theorem part_one {x : Str} {c : Nat} {a r : List Nat} (h : ls x = a ++ c :: r) (hc : c ∉ a) : (Txt.partition x ⟨#[c]⟩).1 = ⟨a.toArray⟩ := by
  have at_iff : ∀ i, PySem.StrLaws.At x ⟨#[c]⟩ x.length i ↔ (ls x)[i]? = some c := fun i => PySem.StrLaws.subAt_one x c i
  unfold Txt.partition
  rcases PySem.StrLaws.occ_head x ⟨#[c]⟩ 1 (Nat.le_refl _) with ⟨_, hn⟩ | ⟨i, r', e, hA, hn⟩
  · exact absurd ((at_iff a.length).mpr (by rw [h, List.getElem?_append_right (Nat.le_refl _)]; simp)) (hn _)
  · rw [e]
    have hi := (at_iff i).mp hA
    have hia : i = a.length := by
      by_cases c1 : i < a.length
      · rw [h, List.getElem?_append_left c1] at hi
        exact absurd (List.mem_of_getElem? hi) hc
      · by_cases c2 : a.length < i
        · exact absurd ((at_iff a.length).mpr (by rw [h, List.getElem?_append_right (Nat.le_refl _)]; simp)) (hn _ c2)
        · lia
    refine ls_ext ?_
    show (Builtin.Str.strSub x 0 i).cps.toList = a
    rw [PySem.StrLaws.strSub_toList, hia]
    show ((ls x).drop 0).take (a.length - 0) = _
    rw [h]; simp
theorem join_count {c : Nat} : ∀ {A : List Str}, A ≠ [] → (∀ p ∈ A, c ∉ ls p) → (ls (Str.join ⟨#[c]⟩ A)).count c + 1 = A.length
  | [], h, _ => absurd rfl h
  | [a], _, h => by
    rw [join_one, List.count_eq_zero.mpr (h a (by simp))]; rfl
  | a :: a' :: r, _, h => by
    have ih := join_count (A := a' :: r) (by simp) fun p hp => h p (List.mem_cons_of_mem _ hp)
    rw [ls_two, List.count_append, List.count_cons_self, List.count_eq_zero.mpr (h a (by simp))]
    rw [List.length_cons]; lia
theorem count_le {x : Str} {c : Nat} : Txt.count x ⟨#[c]⟩ ≤ (((ls x).count c : Nat) : Int) := by
  have h1 := join_count (split_ne x ⟨#[c]⟩) (PySem.StrLaws.split_free x c)
  rw [show ls (Str.join ⟨#[c]⟩ (Txt.split x ⟨#[c]⟩)) = ls x from congrArg ls (PySem.StrLaws.join_split x _)] at h1
  unfold Txt.count
  unfold Txt.split at h1
  have hmem : (Builtin.Str.occurrences x ⟨#[c]⟩ 0 x.length (x.length + 1)) ≠ [] → c ∈ ls x := fun hne => by
    obtain ⟨i, hi⟩ := List.exists_mem_of_ne_nil _ hne
    exact List.mem_of_getElem? ((PySem.StrLaws.subAt_one x c i).mp (PySem.StrLaws.occ_spec _ _ _ _ _ i hi))
  split at h1
  · by_cases hne : (Builtin.Str.occurrences x ⟨#[c]⟩ 0 x.length (x.length + 1)) = []
    · rw [hne]; exact Int.natCast_nonneg _
    · have := List.count_pos_iff.mpr (hmem hne)
      rw [List.length_singleton] at h1; lia
  · split at h1
    · rename_i h2
      rw [List.isEmpty_iff.mp h2]; exact Int.natCast_nonneg _
    · rw [PySem.length_partsBetween] at h1
      lia
end L3
namespace L3
open PySem PySem.Spec PyProof.Rows L2
section
variable {X : Cx}
end
end L3
namespace HS
open PySem PySem.W PyProof.Rows
section
variable {r : Nat → Nat} {n : Nat}
noncomputable def R (r : Nat → Nat) (p : Array Nat) (i : Nat) : Nat := r (p.getD i 0)
noncomputable def Ar (n : Nat) (p : Array Nat) : Prop := p.toList.Perm (List.range n)
theorem Ar.size {p : Array Nat} (h : Ar n p) : p.size = n := by
  have := h.length_eq
  rw [List.length_range, Array.length_toList] at this
  exact this
end
end HS
namespace HS
open PySem PySem.W PyProof.Rows
section
variable {prog : Program} {w : World} {A : Around} {E : Value → Shared → Prop} {s : Shared}
inductive F2 {α β : Type} (R : α → β → Prop) : List α → List β → Prop where
  | nil : F2 R [] []
  | cons {a : α} {b : β} {as : List α} {bs : List β} : R a b → F2 R as bs → F2 R (a :: as) (b :: bs)
theorem F2.length_eq {α β : Type} {R : α → β → Prop} {as : List α} {bs : List β} (h : F2 R as bs) : as.length = bs.length := by
  induction h with
  | nil => rfl
  | cons _ _ ih => rw [List.length_cons, List.length_cons, ih]
end
end HS
namespace L3
open PySem PySem.Spec PyProof.Rows L2
section
variable {X : Cx}
end
end L3
namespace HS
open PySem PySem.W PyProof.Rows
section
variable {prog : Program} {w : World} {A : Around} {E : Value → Shared → Prop} {s : Shared}
end
end HS
namespace L3
open PySem PySem.Spec PyProof.Rows L2
section
variable {X : Cx}
end
end L3
namespace L3
open PySem PySem.Spec PyProof.Rows PySem.W L2
section
variable {X : Cx}
end
end L3
namespace L3
open PySem PySem.Spec PyProof.Rows L2
section
variable {X : Cx}
noncomputable def rNeN : R2 := fun x y H Q => ∃ (a b : Addr) (xs : List V), x = .ref a ∧ y = .ref b ∧ H a = some (.lst xs) ∧ H b = some (.lst []) ∧ Q (.bl (!xs.isEmpty)) H
theorem op_neN (hu : X.A.units + 150 < cLine) : OpR X (compareOp .NotEq) rNeN := by
  intro pins s σ H x y v u Q I rx ry h
  obtain ⟨a, b, xs, rfl, rfl, ha, hb, q⟩ := h
  cases xs with
  | nil => exact op_neD hu pins s σ H _ _ v u Q I rx ry ⟨.lst [], .lst [], .lst ha .nil, .lst hb .nil, rfl, rfl, by decide, q⟩
  | cons z zs =>
    cases rx
    cases ry
    obtain ⟨its, r, pl, hz⟩ := I.list (SqL.of (K := X.K) ha)
    obtain ⟨its2, r2, pl2, hz2⟩ := I.list (SqL.of (K := X.K) hb)
    have h1 := r.length
    have h2 := r2.length
    exact SeqAt.RcNeAt.lists_lengths pl.isList pl2.isList (by rw [List.size_toArray, List.size_toArray, ← h1, ← h2]; simp) (by lia) X.prog X.w X.xe _ ⟨.bl true, H, I, rfl, q⟩
theorem rNeNil {k : Nat} {A : Around} (hr : Room k A) (hA : X.A = A := by rfl) : ROp X (compareOp .NotEq) rNeN := .mk (op_neN (by rw [hA]; exact hu_n hr))
end
end L3
namespace L3
inductive Tr where
  | nil
  | node (l : Tr) (k : Int) (r : Tr)
namespace Tr
noncomputable def d : Tr → D
  | nil => .non
  | node l k r => .tup [l.d, .int k, r.d]
noncomputable def ht : Tr → Nat
  | nil => 0
  | node l _ r => max l.ht r.ht + 1
noncomputable def size : Tr → Nat
  | nil => 0
  | node l _ r => l.size + 1 + r.size
noncomputable def keys : Tr → List Int
  | nil => []
  | node l k r => l.keys ++ [k] ++ r.keys
noncomputable def ins (x : Int) : Tr → Tr
  | nil => node nil x nil
  | node l k r => if x < k then node (l.ins x) k r else node l k (r.ins x)
noncomputable def ord : Tr → Option Int → Option Int → Prop
  | nil, _, _ => True
  | node l k r, lo, hi => (∀ a, lo = some a → a < k) ∧ (∀ b, hi = some b → k < b) ∧ l.ord lo (some k) ∧ r.ord (some k) hi
theorem ht_size : ∀ t : Tr, t.ht ≤ t.size
  | nil => Nat.le_refl _
  | node l k r => by have := ht_size l; have := ht_size r; simp only [ht, size]; lia
theorem keys_length : ∀ t : Tr, t.keys.length = t.size
  | nil => rfl
  | node l k r => by simp only [keys, size, List.length_append, List.length_singleton, keys_length l, keys_length r]
theorem dep_d : ∀ t : Tr, t.d.dep ≤ t.ht
  | nil => Nat.le_refl _
  | node l k r => by
    have := dep_d l
    have := dep_d r
    simp only [d, D.dep, deps, ht]
    lia
end Tr
end L3
namespace L3
noncomputable def maxI : List Int → Int
  | [] => 0
  | [a] => a
  | a :: r => max a (maxI r)
noncomputable def ruleM (ks : List (Int × Int)) (room : Int) : Int × Int :=
  if ks = [] then (1, 1) else
    let lv := maxI (ks.map (·.1))
    let sz := 1 + ((ks.filter fun p => decide (p.1 = lv)).map (·.2)).sum
    if sz ≤ room then (lv, sz) else (lv + 1, 1)
namespace Tr
noncomputable def mark (room : Int) : Tr → Int × Int
  | nil => (0, 0)
  | node l _ r => ruleM ((match l with | nil => [] | node .. => [l.mark room]) ++ (match r with | nil => [] | node .. => [r.mark room])) room
noncomputable def pt (room : Int) : Tr → List (Int × Int × Int)
  | nil => []
  | node l k r => l.pt room ++ r.pt room ++ [(k, (node l k r).mark room)]
end Tr
noncomputable abbrev Tab := List (Int × Int × Int)
noncomputable def look (tb : Tab) (k : Int) : Option (Int × Int) := (tb.find? fun e => decide (e.1 = k)).map (·.2)
namespace Tr
end Tr
noncomputable def Tr.sub (t : Tr) : List Tr := match t with
  | .nil => []
  | .node .. => [t]
end L3
namespace L3
open PySem L2
noncomputable def PenAt (H : Hp) (p : Addr) : Prop := ∃ m n, H p = some (.lst [.int m, .int n])
theorem PenAt.ne {H : Hp} {p l : Addr} (h : PenAt H p) (e : H l = none) : l ≠ p := by
  obtain ⟨m, n, q⟩ := h
  intro z
  rw [z, q] at e; cases e
theorem rep_node {H : Hp} {v : V} {l r : Tr} {k : Int} (h : Rep H v (Tr.node l k r).d) : ∃ a vl vr, v = .ref a ∧ H a = some (.tup [vl, .int k, vr]) ∧ Rep H vl l.d ∧ Rep H vr r.d := by
  cases h with
  | @tup a vs xs e rs =>
    cases rs with
    | cons h1 r1 =>
      cases r1 with
      | cons h2 r2 =>
        cases r2 with
        | cons h3 r3 =>
          cases r3
          cases h2
          exact ⟨a, _, _, rfl, e, h1, h3⟩
theorem rep_nil {H : Hp} {v : V} (h : Rep H v Tr.nil.d) : v = .non := by cases h; rfl
theorem rep_mk {H : Hp} {a : Addr} {vl vr : V} {k : Int} {l r : D} (e : H a = some (.tup [vl, .int k, vr])) (h1 : Rep H vl l) (h2 : Rep H vr r) : Rep H (.ref a) (.tup [l, .int k, r]) := .tup e (.cons h1 (.cons (.int k) (.cons h2 .nil)))
theorem pures_ints : ∀ ns : List Int, pures (ns.map D.int) = true
  | [] => rfl
  | n :: r => by rw [List.map_cons, pures, pures_ints r]; rfl
theorem deps_ints : ∀ ns : List Int, deps (ns.map D.int) = 0
  | [] => rfl
  | n :: r => by rw [List.map_cons, deps, deps_ints r]; rfl
theorem rep_ints {H : Hp} {a : Addr} {ns : List Int} (h : H a = some (.lst (ns.map V.int))) : Rep H (.ref a) (.lst (ns.map D.int)) := .lst h (Reps.ints ns)
end L3
namespace L3
open PySem L2
inductive DT (H : Hp) : List (Key × V) → Tab → Prop where
  | nil : DT H [] []
  | cons {k lv sz : Int} {b : Addr} {kvs : List (Key × V)} {tb : Tab} : H b = some (.tup [.int lv, .int sz]) → DT H kvs tb → DT H ((Sum.inl k, .ref b) :: kvs) ((k, lv, sz) :: tb)
theorem DT.upd {H : Hp} {kvs : List (Key × V)} {tb : Tab} {d : Addr} {o o' : HO} (h : DT H kvs tb) (hd : H d = some o) (ho : ∀ vs, o ≠ .tup vs) : DT (L2.upd H d o') kvs tb := by
  induction h with
  | nil => exact .nil
  | cons e _ ih =>
    refine .cons ?_ ih
    rw [upd_ne (fun z => by rw [z, hd] at e; exact ho _ (Option.some.inj e))]
    exact e
theorem DT.length {H : Hp} {kvs : List (Key × V)} {tb : Tab} (h : DT H kvs tb) : kvs.length = tb.length := by
  induction h with
  | nil => rfl
  | cons _ _ ih => rw [List.length_cons, List.length_cons, ih]
theorem DT.none {H : Hp} {kvs : List (Key × V)} {tb : Tab} (h : DT H kvs tb) {k : Int} (hk : k ∉ tb.map (·.1)) : valV kvs (Sum.inl k : Key) = Option.none := by
  induction h with
  | nil => rfl
  | @cons k' lv sz b kvs tb eb _ ih =>
    simp only [List.map_cons, List.mem_cons, not_or] at hk
    rw [valV_neg (by simpa using fun z => hk.1 z.symm)]
    exact ih hk.2
end L3
namespace L3
open PySem L2
noncomputable def Pen3 (H : Hp) (p : Addr) : Prop := ∃ m n c, H p = some (.lst [.int m, .int n, .int c])
theorem Pen3.mono {H H' : Hp} {p : Addr} (h : Pen3 H p) (s : Same H H') : Pen3 H' p := by
  obtain ⟨m, n, c, e⟩ := h
  exact ⟨m, n, c, s _ _ e⟩
theorem Pen3.ne {H : Hp} {p l : Addr} (h : Pen3 H p) (e : H l = none) : l ≠ p := by
  obtain ⟨m, n, c, q⟩ := h
  intro z
  rw [z, q] at e; cases e
theorem ne_ints {H : Hp} {a b : Addr} {xs ys : List Int} {Q : VK} (ea : H a = some (.lst (xs.map V.int))) (eb : H b = some (.lst (ys.map V.int))) (h : Q (.bl (!decide (xs = ys))) H) : rNeG 150 (.ref a) (.ref b) H Q := by
  refine ⟨_, _, rep_ints ea, rep_ints eb, by rw [D.pure]; exact pures_ints xs, by rw [D.pure]; exact pures_ints ys, by rw [D.dep, deps_ints]; decide, ?_⟩
  by_cases he : xs = ys
  · subst he
    rw [D.eqv_refl]
    simpa using h
  · have hne : (D.lst (xs.map D.int)).eqv (.lst (ys.map D.int)) = false := eqv_ne (by rw [D.pure]; exact pures_ints xs) (by rw [D.pure]; exact pures_ints ys) (fun z => he (by
      injection z with z
      exact (List.map_inj_right (fun _ _ q => by injection q)).mp z))
    rw [hne]
    rw [decide_eq_false he] at h
    exact h
theorem eq_ints {H : Hp} {a b : Addr} {xs ys : List Int} {Q : VK} (ea : H a = some (.lst (xs.map V.int))) (eb : H b = some (.lst (ys.map V.int))) (h : Q (.bl (decide (xs = ys))) H) : rEqG 150 (.ref a) (.ref b) H Q := by
  refine ⟨_, _, rep_ints ea, rep_ints eb, by rw [D.pure]; exact pures_ints xs, by rw [D.pure]; exact pures_ints ys, by rw [D.dep, deps_ints]; decide, ?_⟩
  by_cases he : xs = ys
  · subst he
    rw [D.eqv_refl]
    simpa using h
  · have hne : (D.lst (xs.map D.int)).eqv (.lst (ys.map D.int)) = false := eqv_ne (by rw [D.pure]; exact pures_ints xs) (by rw [D.pure]; exact pures_ints ys) (fun z => he (by
      injection z with z
      exact (List.map_inj_right (fun _ _ q => by injection q)).mp z))
    rw [hne]
    rw [decide_eq_false he] at h
    exact h
noncomputable def Pgs (H : Hp) : List Addr → List (List Int) → Prop
  | [], [] => True
  | b :: bs, p :: ps => H b = some (.lst (p.map V.int)) ∧ Pgs H bs ps
  | _, _ => False
theorem Pgs.stay {H H' : Hp} : ∀ {bs : List Addr} {ps : List (List Int)}, Pgs H bs ps → (∀ b ∈ bs, H' b = H b) → Pgs H' bs ps
  | [], [], _, _ => trivial
  | b :: bs, p :: ps, h, s => ⟨by rw [s b (by simp)]; exact h.1, h.2.stay (fun c hc => s c (by simp [hc]))⟩
  | [], _ :: _, h, _ => h.elim
  | _ :: _, [], h, _ => h.elim
theorem Pgs.mono {H H' : Hp} : ∀ {bs : List Addr} {ps : List (List Int)}, Pgs H bs ps → Same H H' → Pgs H' bs ps
  | [], [], _, _ => trivial
  | b :: bs, p :: ps, h, s => ⟨s _ _ h.1, h.2.mono s⟩
  | [], _ :: _, h, _ => h.elim
  | _ :: _, [], h, _ => h.elim
theorem Pgs.len {H : Hp} : ∀ {bs : List Addr} {ps : List (List Int)}, Pgs H bs ps → bs.length = ps.length
  | [], [], _ => rfl
  | b :: bs, p :: ps, h => by simp [h.2.len]
  | [], _ :: _, h => h.elim
  | _ :: _, [], h => h.elim
theorem Pgs.snoc {H : Hp} {b : Addr} {p : List Int} : ∀ {bs : List Addr} {ps : List (List Int)}, Pgs H bs ps → H b = some (.lst (p.map V.int)) → Pgs H (bs ++ [b]) (ps ++ [p])
  | [], [], _, e => ⟨e, trivial⟩
  | c :: bs, q :: ps, h, e => ⟨h.1, h.2.snoc e⟩
  | [], _ :: _, h, _ => h.elim
  | _ :: _, [], h, _ => h.elim
theorem Pgs.at {H : Hp} : ∀ {bs : List Addr} {ps : List (List Int)} {j : Nat} {b : Addr}, Pgs H bs ps → bs[j]? = some b → ∃ p, ps[j]? = some p ∧ H b = some (.lst (p.map V.int))
  | [], [], _, _, _, e => by simp at e
  | c :: bs, q :: ps, 0, b, h, e => by simp at e; subst e; exact ⟨q, rfl, h.1⟩
  | c :: bs, q :: ps, j + 1, b, h, e => by simpa using Pgs.at h.2 (j := j) (by simpa using e)
  | [], _ :: _, _, _, h, _ => h.elim
  | _ :: _, [], _, _, h, _ => h.elim
end L3
namespace L3
open PySem L2
noncomputable def way (k : Int) : Tr → List Int
  | .nil => []
  | .node l x r => if x = k then [k] else x :: (if k < x then way k l else way k r)
noncomputable def at_ (k : Int) : Tr → Tr
  | .nil => .nil
  | .node l x r => if x = k then .node l x r else if k < x then at_ k l else at_ k r
theorem ord_bd : ∀ (t : Tr) (lo hi : Option Int), t.ord lo hi → ∀ y ∈ t.keys, (∀ a, lo = some a → a < y) ∧ ∀ b, hi = some b → y < b
  | .nil, lo, hi, _, y, hy => by simp [Tr.keys] at hy
  | .node l x r, lo, hi, h, y, hy => by
    obtain ⟨h1, h2, h3, h4⟩ := h
    simp only [Tr.keys, List.mem_append, List.mem_singleton] at hy
    rcases hy with (hy | hy) | hy
    · obtain ⟨g1, g2⟩ := ord_bd l lo (some x) h3 y hy
      refine ⟨g1, fun b hb => ?_⟩
      have := g2 x rfl
      have := h2 b hb
      lia
    · subst hy; exact ⟨h1, h2⟩
    · obtain ⟨g1, g2⟩ := ord_bd r (some x) hi h4 y hy
      refine ⟨fun a ha => ?_, g2⟩
      have := g1 x rfl
      have := h1 a ha
      lia
theorem ord_l {l r : Tr} {x : Int} {lo hi : Option Int} (h : (Tr.node l x r).ord lo hi) {y : Int} (hy : y ∈ l.keys) : y < x := (ord_bd l lo (some x) h.2.2.1 y hy).2 x rfl
theorem ord_r {l r : Tr} {x : Int} {lo hi : Option Int} (h : (Tr.node l x r).ord lo hi) {y : Int} (hy : y ∈ r.keys) : x < y := (ord_bd r (some x) hi h.2.2.2 y hy).1 x rfl
theorem ord_rise : ∀ (t : Tr) (lo hi : Option Int), t.ord lo hi → t.keys.Pairwise (· < ·)
  | .nil, _, _, _ => by simp [Tr.keys]
  | .node l x r, lo, hi, h => by
    have g1 := ord_rise l _ _ h.2.2.1
    have g2 := ord_rise r _ _ h.2.2.2
    rw [Tr.keys, List.append_assoc, List.pairwise_append]
    refine ⟨g1, ?_, fun a ha b hb => ?_⟩
    · rw [List.singleton_append, List.pairwise_cons]
      exact ⟨fun b hb => ord_r h hb, g2⟩
    · have := ord_l h ha
      rw [List.singleton_append] at hb
      rcases List.mem_cons.mp hb with rfl | hb
      · exact this
      · have := ord_r h hb; lia
end L3
namespace L3
open PySem L2
namespace Tr
end Tr
end L3
namespace L3
open PySem PySem.Spec PyProof.Rows L2
section
variable {X : Cx}
end
end L3
namespace L3
open PySem L2
theorem join {G : Prop} {N : L2.St → Hp → Prop} (M : L2.St → Hp → Prop) (h2 : (∀ σ H, M σ H → N σ H) → G) (h1 : ∀ σ H, M σ H → N σ H) : G := h2 h1
end L3
namespace L3
open PySem L2
noncomputable def unI : V → Int
  | .int i => i
  | _ => 0
theorem Pgs.set {H : Hp} {y : Int} : ∀ {bs : List Addr} {ps : List (List Int)} {j : Nat} {b : Addr} {q : List Int}, Pgs H bs ps → bs.Nodup → bs[j]? = some b → ps[j]? = some q → Pgs (upd H b (.lst (q.map V.int ++ [.int y]))) bs (ps.set j (q ++ [y]))
  | [], [], _, _, _, _, _, e, _ => by simp at e
  | c :: bs, p :: ps, 0, b, q, h, hn, e, e2 => by
    simp at e e2
    subst e e2
    rw [List.nodup_cons] at hn
    refine ⟨by rw [upd_same, List.map_append]; rfl, h.2.stay fun d hd => upd_ne (fun z => hn.1 (z ▸ hd))⟩
  | c :: bs, p :: ps, j + 1, b, q, h, hn, e, e2 => by
    rw [List.nodup_cons] at hn
    have e' : bs[j]? = some b := by simpa using e
    have hcb : c ≠ b := fun z => hn.1 (z ▸ List.mem_of_getElem? e')
    exact ⟨by rw [upd_ne hcb]; exact h.1, Pgs.set h.2 hn.2 e' (by simpa using e2)⟩
  | [], _ :: _, _, _, _, h, _, _, _ => h.elim
  | _ :: _, [], _, _, _, h, _, _, _ => h.elim
end L3
namespace L3
open PySem L2
noncomputable def ddS (acc : List Int) (n : Int) : List Int := if n ∈ acc then acc else acc ++ [n]
noncomputable def dd (ws : List Int) : List Int := ws.foldl ddS []
end L3
namespace L3
open PySem PySem.Spec PyProof.Rows L2
section
variable {P : Program} {w : World} {K : PySem.W.Frag} {mg : Str → Option Value} {base : Heap}
end
section
variable {X : Cx}
end
end L3
namespace L3
open PySem PySem.Spec PyProof.Rows L2
section
variable {X : Cx}
end
section
variable {P : Program} {w : World} {K : PySem.W.Frag} {mg : Str → Option Value} {base : Heap}
end
end L3
namespace L3
open PySem PySem.Spec PyProof.Rows L2
end L3
namespace L3
open PySem PySem.Spec PyProof.Rows L2
end L3
namespace L3
open PySem PySem.Spec PyProof.Rows L2
section
variable {prog : Program} {w : World} {A : Around}
variable {R : Result → Shared → Prop} {it : Addr} {fp wr : List Addr} {n : Nat} {P : Nat → Value → Prop} {St : Nat → Heap → Prop} {kw : List (Str × Value)}
end
section
variable {X : Cx}
end
end L3
namespace L3
open PySem PySem.Spec PySem.Calls PyProof.Rows L2
section
open Builtin Builtin.ObjectAttr Builtin.Getset_descriptor
structure ExcF (K : PySem.W.Frag) (C : Addr) : Prop where
  ga : PySem.W.findIn K (.ref C) "__getattribute__" = some (some (.builtin "BaseException.__getattribute__"))
  gt : PySem.W.findIn K (.ref C) "__getattr__" = some none
  bas : PySem.W.mroIn K C (.type "BaseException") = some true
  isc : (PySem.W.clsIn K C).isSome = true
  fnd : PySem.W.findIn K (.ref C) "__class__" = some (some (.builtin "object.__class__"))
  spc : PySem.W.specialIn K (.builtin "object.__class__") "__get__" = some (some (.builtin "getset_descriptor.__get__"))
  tks : PySem.W.takesIn K (.builtin "object.__class__") = some true
  mro : PySem.W.mroIn K C (.type "object") = some true
noncomputable def ExcAt (a C : Addr) (h : Heap) : Prop := ∃ o, h.get? a = some o ∧ o.cls = .ref C
section
variable {K : PySem.W.Frag} {x D : Addr}
theorem exc_ty {M : Model} {h : Heap} (e : ExcAt x D h) : PySem.W.Looks M h (typeOf (.ref x)) (.ref D) := by
  obtain ⟨o, e1, e2⟩ := e
  rw [← e2]
  exact (PySem.W.Looks.ld e1).andThen .now
theorem exc_find {M : Model} {h : Heap} (F : ExcF K D) (X : K.In h) : PySem.W.Looks M h (find (.ref x) (.ref D) "__class__") (.bind (.builtin "getset_descriptor.__get__") (.builtin "object.__class__")) := by
  have l1 := PySem.W.looks_findIn (M := M) X F.fnd
  have l2 : PySem.W.Looks M h (getOf (some (.builtin "object.__class__"))) (some (.builtin "getset_descriptor.__get__")) := PySem.W.looks_specialIn X F.spc
  have l3 : PySem.W.Looks M h (dataDescriptor? (some (.builtin "object.__class__")) (some (.builtin "getset_descriptor.__get__"))) (some (.builtin "getset_descriptor.__get__", .builtin "object.__class__")) := (PySem.W.looks_takesIn (M := M) X F.tks).andThen .now
  exact l1.andThen (l2.andThen (l3.andThen (PySem.W.Looks.tag .now)))
variable {prog : Program} {w : World} {A : Around} {E : Value → Shared → Prop} {s : Shared}
theorem exc_get {R : Result → Shared → Prop} {tp : Value} (F : ExcF K D) (X : K.In s.heap) (e : ExcAt x D s.heap) (h : R (.ok (.ret (.ref D))) s) :
    codeAny (model prog w) A (.call (.builtin "getset_descriptor.__get__") ⟨[.builtin "object.__class__", .ref x, tp], []⟩) R s := by
  obtain ⟨h0, g0, d0, t0, o0⟩ := s
  have la := exc_ty (M := model prog w) e
  have lb := PySem.W.looks_mroIn (M := model prog w) X F.mro
  refine codeAny_call_builtin PySem.W.KF.slot_gs.plain PySem.W.KF.entry_gs (PySem.W.KF.slot_gs.check _ _ _ _ _ _ _ _ PySem.W.KF.type_class (PySem.W.KF.args_gs _ _ _) ?_)
  unfold Builtin.«getset_descriptor.__get__»; unfold descrGet
  rw [PySem.W.dga_obj]; refine wpAny_bind (wpAny_pure ?_)
  unfold descrGetter; unfold descrCheckInstance descrNameAndClass; unfold isInstance
  simp only [PySem.W.KF.owner_class]
  repeat lk
  refine ⟨Code.quiet_builtin _ (by decide +kernel), codeAny_builtin PySem.W.KF.entry_class ?_⟩
  unfold Builtin.«object.__class__»; unfold shownTypeOf
  repeat lk
  exact h
theorem exc_ask {R : Result → Shared → Prop} {tk : Tok} (F : ExcF K D) (X : K.In s.heap) (e : ExcAt x D s.heap) (h : R (.ok (.ret (.ref D))) s) :
    codeAny (model prog w) A (.call (.builtin "BaseException.__getattribute__") ⟨[.ref x, .str "__class__" tk], []⟩) R s := by
  obtain ⟨h0, g0, d0, t0, o0⟩ := s
  have la := exc_ty (M := model prog w) e
  have lm := PySem.W.looks_mroIn (M := model prog w) X F.bas
  have lc := exc_find (M := model prog w) (x := x) F X
  refine codeAny_call_builtin PySem.F.attr_ValueError.ga.plain PySem.F.entry_bexc_ga ?_
  have k1 : builtinKind "BaseException.__getattribute__" = some .slot := by decide +kernel
  have k2 : splitId "BaseException.__getattribute__" = some ("BaseException", "__getattribute__") := by decide +kernel
  have k3 := PySem.F.args_bexc_ga (.ref x) (.str "__class__" tk)
  simp only [checkBuiltinCall, k1, k2]
  refine wpAny_bind ?_
  unfold isInstance
  refine wpAny_bind (la.at (lm.at ?_))
  simp only [Bool.not_true, Bool.false_eq_true, if_false]
  repeat (any_goals (first | assumption | wp_step))
  obtain ⟨o, e1, e2⟩ := id e
  refine wpAny_loadPart_at e1 (wpAny_pure ?_)
  rw [e2]
  refine wpAny_bind (lc.at ?_)
  dsimp only
  unfold bindTo
  refine wpAny_bind (wpAny_holding (wpAny_call (exc_get F X e ?_)))
  exact wpAny_pure h
theorem exc_class {Q : Option Value → Shared → Prop} (F : ExcF K D) (X : K.In s.heap) (e : ExcAt x D s.heap) (h : Q (some (.ref D)) { s with toks := s.toks + 1 }) : wpAny (model prog w) A (getAttr? (.ref x) "__class__") Q E s := by
  obtain ⟨h0, g0, d0, t0, o0⟩ := s
  have la := exc_ty (M := model prog w) e
  have lb := PySem.W.looks_findIn (M := model prog w) X F.ga
  have ld := PySem.W.looks_findIn (M := model prog w) X F.gt
  have hx : ¬ (onTheHeap (Value.ref D) && Value.builtin "BaseException.__getattribute__" == Value.builtin "object.__getattribute__") = true := by
    rw [show (Value.builtin "BaseException.__getattribute__" == Value.builtin "object.__getattribute__") = false by decide +kernel, Bool.and_false]
    exact Bool.false_ne_true
  unfold getAttr?; unfold getAttrBy?; unfold getAttrBy
  refine wpAny_bind (wpAny_mkText (wpAny_bind (wpAny_attempt (wpAny_holding (wpAny_bind (la.at (wpAny_bind (lb.at ?_))))))))
  dsimp only
  rw [if_neg hx]
  unfold getAttrByItsOwn
  refine wpAny_bind (m := hookBefore (.ref D)) (ld.at ?_)
  refine wpAny_bind (wpAny_attempt (wpAny_holding ?_))
  change wpAny _ _ (boundAndCalled (.builtin "BaseException.__getattribute__") (.ref x) (.str "__class__" t0)) _ _ _
  unfold boundAndCalled
  refine wpAny_bind (wpAny_of_eq (PySem.F.attr_ValueError.ga.bind _) ?_)
  refine wpAny_call (exc_ask F X e ?_)
  exact PySem.W.handed_on rfl (wpAny_pure h)
theorem kitx_exc (F : ExcF K D) : PySem.W.KitX K (.ref x) (.ref D) (ExcAt x D) where
  ty := fun _ _ _ e => exc_ty e
  it := fun _ _ X _ => by
    have z := F.isc
    unfold PySem.W.clsIn at z
    split at z
    · rename_i ho
      intro A' Q' E' s' k q
      unfold isType; unfold loadHead
      exact wpAny_bind (wpAny_loadPart (k _ _ (X _ _ ho)) (wpAny_pure q))
    · cases z
  ne := fun h tp dd its n sl X htp => by
    refine Bool.eq_false_iff.mpr fun q => ?_
    have e : D = tp := Value.ref.inj (beq_iff_eq.mp q)
    subst e
    have z := F.isc
    unfold PySem.W.clsIn at z
    split at z
    · rename_i ho
      cases (X _ _ ho).symm.trans htp
    · cases z
  ca := fun X e k => exc_class F X e k
end
end
noncomputable def excE (a C : Addr) : HO := .ext (ExcAt a C)
noncomputable def rIsE (K : PySem.W.Frag) : List V → Hp → VK → Prop := fun xs H Q => ∃ (a C : Addr) (y : V), xs = [.ref a, y] ∧ H a = some (excE a C) ∧ ExcF K C ∧
  ((∃ T b, y = .ty T ∧ PySem.W.kitOne K (.ref C) (.type T) = some b ∧ Q (.bl b) H) ∨ (∃ D b, y = .ref D ∧ PySem.W.kitOne K (.ref C) (.ref D) = some b ∧ Q (.bl b) H) ∨
    ∃ (tp : Addr) (ds : List Addr) (b : Bool), y = .ref tp ∧ H tp = some (.tup (ds.map V.ref)) ∧ PySem.W.kitAny K (.ref C) (ds.map Value.ref) = some b ∧ Q (.bl b) H)
theorem vals_ads : ∀ {ds : List Addr} {us : List Value}, Vals (ds.map V.ref) us → us = ds.map Value.ref
  | [], _, .nil => rfl
  | d :: ds, _, .cons r t => by
    rw [vals_ads t]
    cases (show _ = Value.ref d from r)
    rfl
section
variable {X : Cx}
theorem call_isE : CallR X (.builtin "isinstance") (rIsE X.K) := by
  intro pins s σ H vs us Q I r h
  obtain ⟨a, C, y, rfl, ea, F, h⟩ := h
  cases r with
  | cons r1 r =>
  cases r with
  | cons r2 r =>
  cases r
  rename_i u1 u2
  cases (show u1 = Value.ref a from r1)
  have he : ExcAt a C s.heap := (show ObjOk X.prog X.w H s.heap a (.ext (ExcAt a C)) from I.hok a _ ea).1
  rcases h with ⟨T, b, rfl, e, q⟩ | ⟨D, b, rfl, e, q⟩ | ⟨tp, ds, b, rfl, et, e, q⟩
  · cases (show u2 = Value.type T from r2)
    exact PySem.W.kia_one (kitx_exc F) I.kIn he e (fun z => nomatch z) fun tk => ⟨.bl b, H, I.tok tk, rfl, q⟩
  · cases (show u2 = Value.ref D from r2)
    exact PySem.W.kia_one (kitx_exc F) I.kIn he e (fun z => nomatch z) fun tk => ⟨.bl b, H, I.tok tk, rfl, q⟩
  · cases (show u2 = Value.ref tp from r2)
    obtain ⟨_, its, rv, o, h1, h2, h3⟩ := (show ObjOk X.prog X.w H s.heap tp (.tup (ds.map V.ref)) from I.hok tp _ et)
    obtain rfl := vals_ads rv
    obtain ⟨oc, od, oda, osl⟩ := o
    cases h2
    obtain ⟨n, h3⟩ := h3
    cases h3
    exact PySem.W.kia_tup (kitx_exc F) I.kIn he h1 e (fun z => nomatch z) fun tk => ⟨.bl b, H, I.tok tk, rfl, q⟩
end
end L3
namespace L3
open PySem PySem.Spec PyProof.Rows L2
theorem objok_there {P : Program} {w : World} {H : Hp} {h : Heap} {a : Addr} {o : HO} (x : ObjOk P w H h a o) : ∃ ob, h.get? a = some ob := by
  cases o with
  | lst xs => obtain ⟨_, its, n, _, e⟩ := x; exact ⟨_, e⟩
  | tup xs => obtain ⟨_, its, _, ob, e, _⟩ := x; exact ⟨_, e⟩
  | dK kvs => obtain ⟨_, _, vs, _, ob, es, ep, e, _⟩ := x; exact ⟨_, e⟩
  | dT kvs => obtain ⟨_, _, xs, _, ob, es, ep, e, _⟩ := x; exact ⟨_, e⟩
  | set S n => obtain ⟨ob, es, ep, t, e, _⟩ := x; exact ⟨_, e⟩
  | ins C dx fs => obtain ⟨_, _, _, e, _⟩ := x; exact ⟨_, e⟩
  | own y => exact x
  | xd fs => obtain ⟨mA, ⟨od, es, ep, e, _⟩, _⟩ := x; exact ⟨_, e⟩
  | rng lo hi => obtain ⟨t, u, v, e⟩ := x; exact ⟨_, e⟩
  | frz ob u => obtain ⟨e, _⟩ := x; exact ⟨_, e⟩
  | tbl ps => exact ⟨_, x⟩
  | met f y => exact ⟨_, x⟩
  | ext φ => exact x.2.1
noncomputable def Kept (fs : List Addr) (H' : Hp) (h h1 B : Heap) : Prop := ∀ b o, h1.get? b = some o → b ∉ fs → ((∃ u, H' b = some u) ∨ ∃ o', h.get? b = some o') → B.get? b = some o
theorem fly_un {P : Program} {w : World} {fs : List Addr} {H H' : Hp} {h h1 h2 B : Heap} (u : Un fs [] H H' h h1) (hok : HOk P w H' h1) (hfr : ∀ b ∈ fs, H' b = none ∧ ∃ o, h1.get? b = some o ∧ ∀ vs, o.data ≠ .fields vs)
    (hB : Kept fs H' h h1 B) (st : B.StaysIn h2) (up : h1.UpToSlots h2) : Un fs [] H H' h h2 ∧ HOk P w H' h2 ∧ Kept fs H' h h2 B := by
  have kept : ∀ b o, h1.get? b = some o → b ∉ fs → ((∃ u, H' b = some u) ∨ ∃ o', h.get? b = some o') → h2.get? b = some o := fun b o e nf z => st _ _ (hB b o e nf z)
  have nfr : ∀ b v, H' b = some v → b ∉ fs := fun b v e z => by rw [(hfr b z).1] at e; cases e
  refine ⟨⟨fun b o q n hb hx => kept b o (u.keep b o q n hb hx) hb (.inr ⟨o, q⟩), fun b o q n hb hx => ?_, u.free, fun b o q hx => ?_, u.tups, u.frzs, u.tbls⟩, fun a o e => ?_, fun b o e nf z => ?_⟩
  · obtain ⟨sl, e⟩ := u.slot b o q n hb hx
    obtain ⟨_, o1, ho1, hd⟩ := hfr b hb
    rw [e] at ho1
    cases ho1
    obtain ⟨sl', e'⟩ := up b _ e hd
    exact ⟨sl', e'⟩
  · obtain ⟨o', e⟩ := u.there b o q hx
    by_cases hb : b ∈ fs
    · obtain ⟨_, o1, ho1, hd⟩ := hfr b hb
      obtain ⟨sl', e'⟩ := up b o1 ho1 hd
      exact ⟨_, e'⟩
    · exact ⟨o', kept b o' e hb (.inr ⟨o, q⟩)⟩
  · refine (hok a o e).stay (fun b v hb q => kept b v q ?_ (.inl ?_)) (fun _ q => q) fun _ _ q => q
    · rcases hb with rfl | hb
      · exact nfr _ _ e
      · exact nfr _ _ hb
    · rcases hb with rfl | hb
      · exact ⟨_, e⟩
      · exact ⟨_, hb⟩
  · obtain ⟨o1, e1⟩ : ∃ o1, h1.get? b = some o1 := by
      rcases z with ⟨v, e'⟩ | ⟨o', e'⟩
      · exact objok_there (hok b v e')
      · exact u.there b o' e' (by simp)
    have := kept b o1 e1 nf z
    rw [e] at this
    cases this
    exact hB b _ e1 nf z
theorem fly_track {P : Program} {w : World} {fs : List Addr} {H H' : Hp} {h h2 : Heap} {ea C : Addr} (u : Un fs [] H H' h h2) (hok : HOk P w H' h2) (n : h.get? ea = none) (n' : H' ea = none) (e : ExcAt ea C h2) :
    Un fs [] H (upd H' ea (excE ea C)) h h2 ∧ HOk P w (upd H' ea (excE ea C)) h2 := by
  have ne : ∀ b o, h.get? b = some o → b ≠ ea := fun b o q z => by rw [z, n] at q; cases q
  have nt : ∀ b v, H' b = some v → b ≠ ea := fun b v q z => by rw [z, n'] at q; cases q
  refine ⟨⟨u.keep, u.slot, fun b o q m hx => by rw [upd_ne (ne b o q)]; exact u.free b o q m hx, u.there, fun b xs q => ?_, fun b o xs q => ?_, fun b ps q => ?_⟩, fun a o q => ?_⟩
  · have := u.tups b xs q
    rw [upd_ne (nt _ _ this)]; exact this
  · have := u.frzs b o xs q
    rw [upd_ne (nt _ _ this)]; exact this
  · obtain ⟨more, this⟩ := u.tbls b ps q
    exact ⟨more, by rw [upd_ne (nt _ _ this)]; exact this⟩
  · by_cases ha : a = ea
    · subst ha
      rw [upd_same] at q
      cases q
      refine ⟨e, ?_, fun h1 h2 ⟨o, q1, q2⟩ k => ⟨o, k o q1, q2⟩⟩
      obtain ⟨o, q1, _⟩ := e
      exact ⟨o, q1⟩
    · rw [upd_ne ha] at q
      exact (hok a o q).stay (fun _ _ _ q => q) (fun b q => by rw [upd_ne (nt _ _ q)]; exact q) fun b xs q => by rw [upd_ne (nt _ _ q)]; exact q
noncomputable def CXE (P : Program) (w : World) : CXT := fun outer H s E e s' => ∃ (ea t C : Addr) (B : Heap) (H' : Hp), e = .ref ea ∧ s'.os = s.os ∧ AllBare s'.gens ∧ Un (frs outer) [] H H' s.heap s'.heap ∧ HOk P w H' s'.heap ∧
  s.heap.get? ea = none ∧ H' ea = none ∧ Heap.FlyingW B outer ea (.ref C) (.ref t) s'.heap ∧ Kept (frs outer) H' s.heap s'.heap B ∧ E (.ref C) none H'
section
variable {X : Cx} {pins : List (Addr × Obj)} {σ : St} {H : Hp} {s : Shared}
theorem inv_frames (I : Inv X pins σ H s) : ∀ b ∈ X.fs, H b = none ∧ ∃ o, s.heap.get? b = some o ∧ ∀ vs, o.data ≠ .fields vs := fun b hb => by
  obtain ⟨_, o0, h0, _⟩ := I.ok.funs.mem hb
  exact ⟨I.base.free b o0 h0 (I.ok.frf b hb) fun z => I.ok.exfs b z hb, (I.funs.mem hb).2⟩
theorem inv_stack (I : Inv X pins σ H s) : ∀ b ∈ frs X.stack, H b = none ∧ ∃ o, s.heap.get? b = some o ∧ ∀ vs, o.data ≠ .fields vs := fun b hb => ⟨I.stkFree b hb, (I.stack.mem hb).2⟩
end
section
variable {P : Program} {w : World} {K : PySem.W.Frag} {mg : Str → Option Value} {base : Heap} {N : List Str} {qual : Str} {scope : Scope} {f : Addr} {cd : Value} {A : Around} {outer : List Env} {s : Shared} {H : Hp} {E : XK}
theorem raise_leaves {pins : List (Addr × Obj)} {σ : St} {H2 : Hp} {s2 : Shared} {h' : Heap} {e C : Addr} {us : List Value} (I : Inv (cxOf (CXE P w) P w K mg base N qual scope f cd A outer s H E) pins σ H2 s2) (hm : Heap.MadeExcOf s2.heap h' e (.ref C) us) (q : E (.ref C) none H2) :
    (cxOf (CXE P w) P w K mg base N qual scope f cd A outer s H E).xe (.ref e) { s2 with heap := h' } := by
  have hL : ∀ b, b ∉ frs outer → ((∃ u, H2 b = some u) ∨ ∃ o', s.heap.get? b = some o') → b ∉ frs (envOfC qual scope s.heap.objs.size f cd :: outer) := fun b nf z hb => by
    rcases List.mem_cons.mp (I.stkSub b hb) with e | hb
    · rcases z with ⟨u, z⟩ | ⟨o, z⟩
      · rw [e] at z
        rw [show H2 _ = none from I.free] at z
        cases z
      · rw [e] at z
        exact absurd (Heap.lt_size z) (Nat.lt_irrefl _)
    · exact nf hb
  refine wpAny_leaves_madeW (base := PySem.W.hideAll s2.heap (frs (envOfC qual scope s.heap.objs.size f cd :: outer))) (h := s2.heap) I.ok.frames rfl (fun b o q => PySem.W.of_hideAll _ q) (PySem.W.funFrames_hide I.stack (fun env he a hf => List.mem_filterMap.mpr ⟨env, he, hf⟩)) hm fun h3 t x1 x2 x3 x4 => ?_
  obtain ⟨un, hok, hB⟩ := fly_un (h2 := h3) (show Un (frs outer) [] H H2 s.heap s2.heap from I.base) (show HOk P w H2 s2.heap from I.hok) (inv_frames I) (fun b o e nf z => PySem.W.hideAll_get _ e (hL b nf z)) x1.1 ((Heap.UpToSlots.of_keeps hm.keeps).trans x4)
  refine ⟨e, t, C, _, H2, rfl, I.os, I.bare, un, hok, ?_, ?_, x1, hB, q⟩
  · cases z : s.heap.get? e with
    | none => rfl
    | some o =>
      obtain ⟨o', e'⟩ := I.base.there e o z (fun z => nomatch z)
      rw [hm.new] at e'; cases e'
  · cases z : H2 e with
    | none => rfl
    | some v =>
      obtain ⟨o, e'⟩ := objok_there (I.hok e v z)
      rw [hm.new] at e'; cases e'
theorem passE {E' : XK} (hE : ∀ c H', E' c none H' → E c none H') : Passes (CXE P w) (cxOf (CXE P w) P w K mg base N qual scope f cd A outer s H E) E' := by
  intro pins σ H1 s1 e s' I h
  obtain ⟨ea, t, C, B, H', rfl, os, bare, un, hok, new, fre, fly, hB, q⟩ := h
  have I' := I.call' os un hok bare (fun b z => absurd z (by simp))
  have hL : ∀ b, b ∉ frs outer → ((∃ u, H' b = some u) ∨ ∃ o', s.heap.get? b = some o') → b ∉ frs (envOfC qual scope s.heap.objs.size f cd :: outer) := fun b nf z hb => by
    rcases List.mem_cons.mp (I.stkSub b hb) with e | hb
    · rcases z with ⟨u, z⟩ | ⟨o, z⟩
      · rw [e] at z
        rw [show H' _ = none from I'.free] at z
        cases z
      · rw [e] at z
        exact absurd (Heap.lt_size z) (Nat.lt_irrefl _)
    · exact nf hb
  refine wpAny_leaves_onW I.ok.frames rfl fly fun h3 x1 x2 => ?_
  obtain ⟨un2, hok2, hB2⟩ := fly_un (h2 := h3) (show Un (frs outer) [] H H' s.heap s'.heap from I'.base) hok (inv_frames I') (fun b o e nf z => hB b o e (hL b nf z) (z.elim .inl fun ⟨o', z⟩ => .inr (I.base.there b o' z (fun z => nomatch z)))) x1.1 x2
  refine ⟨ea, t, C, B, H', rfl, os.trans I.os, bare, un2, hok2, ?_, fre, x1, hB2, hE _ _ q⟩
  cases z : s.heap.get? ea with
  | none => rfl
  | some o =>
    obtain ⟨o', e'⟩ := I.base.there ea o z (fun z => nomatch z)
    rw [new] at e'; cases e'
structure ErrK (K : PySem.W.Frag) (mg : Str → Option Value) (x : Str) (C : Addr) : Prop where
  at_ : mg x = some (.ref C)
  own : PySem.W.excIn K C [.type "ValueError", .type "Exception", .type "BaseException", .type "object"] "ValueError.__new__" = true
noncomputable def tRaise (E : XK) (C : Addr) (t : TA) : TS := fun _ σ H => t σ H fun vs H1 => vs.length ≤ sizeLine ∧ E (.ref C) none H1
theorem ps_raise {x : Str} {C : Addr} {e0 : Expr} {es : List Expr} {t : TA} {np cpos pos : Pos} (R : ErrK K mg x C) (hg : Gl (cxOf (CXE P w) P w K mg base N qual scope f cd A outer s H E) x) (ha : PA (cxOf (CXE P w) P w K mg base N qual scope f cd A outer s H E) (e0 :: es) t)
    (hdb : (x == ("__debug__" : Str)) = false := by decide) (he : starEach (e0 :: es) (cxOf (CXE P w) P w K mg base N qual scope f cd A outer s H E).env = (false, eval e0 (cxOf (CXE P w) P w K mg base N qual scope f cd A outer s H E).env) :: starEach es (cxOf (CXE P w) P w K mg base N qual scope f cd A outer s H E).env := by rfl)
    (hpl : (backTo cpos (starEach es (cxOf (CXE P w) P w K mg base N qual scope f cd A outer s H E).env)).any (·.1) = false := by rfl) :
    PS (cxOf (CXE P w) P w K mg base N qual scope f cd A outer s H E) (.Raise (some (.Call (.Name x np) (e0 :: es) [] cpos)) none pos) (tRaise E C t) := by
  intro pins s1 σ H1 D I h
  have hown := R.own
  unfold PySem.W.excIn at hown
  split at hown
  case h_2 => cases hown
  rename_i dd cdd sl ho
  split at hown
  case h_2 => cases hown
  rename_i C' bm k0 k1 k2 k3 nn k5 hmr hs
  simp only [Bool.and_eq_true, beq_iff_eq, Bool.not_eq_true'] at hown
  obtain ⟨⟨⟨⟨⟨rfl, rfl⟩, hdel⟩, ht⟩, hok⟩, hni⟩ := hown
  obtain ⟨nm, bs, mro, ns, qn, hd, sn, sub, ab, col, del⟩ := cdd
  dsimp only at hmr hdel hok hni
  subst hmr hdel
  have hsl : sl = #[k0, k1, k2, k3, some (.builtin "ValueError.__new__"), k5] := by
    obtain ⟨l⟩ := sl
    simp only at hs
    rw [hs]
  subst hsl
  have hC := I.ok.mod.kin _ _ ho
  have T := PySem.W.tail_of_in I.ok.mod.kin ht
  have F := PySem.F.excBase_ValueError
  refine wpAny_Raise_call_subU (C := C') (nm := nm) (q := qn) (N := ns) (bs := bs) (bm := bm) (hdct := hd) (sn := sn) (sub := sub) (ab := ab) (col := col) (dd := dd) (k0 := k0) (k1 := k1) (k2 := k2) (k3 := k3) (k5 := k5) F F.hasB F (mN := base.nsMap ns) (T.hasType F.hasBase) (I.ok.hd rfl)
    (by rw [he]; show (false || (backTo cpos (starEach es (cxOf (CXE P w) P w K mg base N qual scope f cd A outer s H E).env)).any (·.1)) = false; rw [hpl]; rfl) (PySem.W.nsMap_none_of_in I.ok.mod.kin hok hni) (ld_glob I hg R.at_ ⟨rfl, ?_⟩ hdb)
  have hpa := ha cpos pins s1 σ H1 _ I h
  rw [he] at hpa ⊢
  refine Calls.evalArgs_plain (wpAny_mono hpa (fun us s2 ⟨vs, H2, I2, rv, hl, q⟩ => ⟨rfl, ?_, I2.bk _ _ hC, (Heap.Ns.of_isNs (PySem.W.isNs_of_in I.ok.mod.kin hok)).keeps I2.bk, T.keeps I2.bk, fun h' e hm => raise_leaves I2 hm q⟩) fun _ _ y => y)
  rw [← rv.length]; exact hl
end
end L3
namespace L3
open PySem PySem.Spec PyProof.Rows L2
noncomputable abbrev TX := Ends → (St → Value → Hp → Prop) → St → Hp → Prop
noncomputable def Flown (X : Cx) (pins : List (Addr × Obj)) (EX : St → Value → Hp → Prop) (e : Value) (s' : Shared) : Prop :=
  ∃ (σ1 : St) (H1 : Hp) (s1 : Shared), Inv X pins σ1 H1 s1 ∧ CXE X.prog X.w X.stack H1 s1 (fun c _ H' => EX σ1 c H') e s'
noncomputable def PX (X : Cx) (sts : List Stmt) (t : TX) : Prop := ∀ (pins : List (Addr × Obj)) (s : Shared) (σ : St) (H : Hp) (D : Ends) (EX : St → Value → Hp → Prop), Inv X pins σ H s → t D EX σ H →
  wpAny (model X.prog X.w) X.A (execs sts X.env) (SP X pins D) (Flown X pins EX) s
section
variable {X : Cx}
theorem ld_globA {pins : List (Addr × Obj)} {s : Shared} {σ : St} {H : Hp} {A : Around} {E : Value → Shared → Prop} {x : Str} {u : Value} {pos : Pos} {Q : Value → Shared → Prop} (I : Inv X pins σ H s) (hg : Gl X x) (hm : X.mg x = some u) (h : Q u s)
    (hdb : (x == ("__debug__" : Str)) = false := by decide) : wpAny (model X.prog X.w) A (eval (.Name x pos) X.env) Q E s :=
  Calls.Name_function_global I.ok.kind hg (Calls.loadGlobal_global (by rw [I.ok.glob]; exact I.ok.mod.glob.keeps I.bk) hm h) hdb
theorem PA.nox {es : List Expr} {t : TA} {pins : List (Addr × Obj)} {s : Shared} {σ : St} {H : Hp} {Q : List V → Hp → Prop} {E : Value → Shared → Prop} (h : PA X.nox es t) (pos : Pos) (I : Inv X pins σ H s) (q : t σ H Q) :
    wpAny (model X.prog X.w) X.A (spliced (backTo pos (starEach es X.env))) (AP X pins σ Q) E s :=
  wpAny_mono (h pos pins s σ H Q (I.wish _) q) (fun _ _ ⟨vs, H', I', r, q⟩ => ⟨vs, H', I'.unwish, r, q⟩) fun _ _ z => False.elim z
noncomputable def xCall (sp : Sp) (t : TA) : TX := fun D EX σ H => t σ H fun vs H1 => sp vs H1 (fun _ H2 => D.nx σ H2) (fun c _ H2 => EX σ c H2)
theorem px_call {k : Nat} {x : Str} {sp : Sp} {e : Expr} {es : List Expr} {t : TA} {p pos ep : Pos} (C : Cal X.prog X.w X.K X.mg X.base (CXE X.prog X.w) k x sp) (hr : Room k X.A) (hg : Gl X x) (ha : PA X.nox (e :: es) t)
    (hdb : (x == ("__debug__" : Str)) = false := by decide) (he : starEach (e :: es) X.env = (false, eval e X.env) :: starEach es X.env := by rfl) (hpl : (backTo pos (starEach es X.env)).any (·.1) = false := by rfl)
    (hs : swapsWith (.Call (.Name x p) (e :: es) [] pos) none ep.line X.env = pure false := by rfl) : PX X [.Expr (.Call (.Name x p) (e :: es) [] pos) ep] (xCall sp t) := by
  intro pins s σ H D EX I h
  obtain ⟨f, fd, ps, F, hm, hk, hb⟩ := C
  refine wpAny_execs_cons (wpAny_Expr_any ?_ I.quiet hs)
  refine wpAny_Call_Name_kw (ld_globA I hg hm ?_ hdb)
  refine PySem.W.callWith_K (h₀ := X.base) I.ok.mod.kin hk (wpAny_mono (PA.nox ha pos I h) (fun us s1 ⟨vs, H1, I1, r, q⟩ => ⟨I1.kIn, ?_⟩) fun _ _ z => z) he hpl
  have hl : us.length = ps.length := by rw [← r.length]; exact F.len _ _ _ _ q
  have hbb := hb s1 us I1.kIn (by rw [List.append_nil]; exact hl)
  rw [List.append_nil] at hbb
  refine wpAny_call (codeAny_mono (F.run X.A X.stack s1 H1 ⟨us, []⟩ us vs _ _ hr I1.env0 hbb r q) fun r s' hq => ?_)
  cases r with
  | error e => exact ⟨σ, H1, s1, I1, hq⟩
  | ok fl =>
    cases fl with
    | ret u =>
      obtain ⟨v, H', I', r', q'⟩ := I1.after hq
      exact wpAny_execs_nil ⟨σ, H', I', q'⟩
    | next => exact False.elim hq
    | brk => exact False.elim hq
    | cont => exact False.elim hq
noncomputable abbrev marked (X : Cx) (e : Addr) : Cx := { X with A := X.A.mark (some (.ref e)), calm := false, xe := fun _ _ => False }
theorem inv_marked {pins : List (Addr × Obj)} {σ : St} {H : Hp} {s : Shared} (I : Inv X pins σ H s) (e : Addr) : Inv (marked X e) pins σ H s :=
  ⟨⟨I.ok.mod, I.ok.kind, I.ok.glob, I.ok.blt, I.ok.above, I.ok.inj, I.ok.has, I.ok.cab, fun z => Bool.noConfusion z, I.ok.frames, I.ok.stk, I.ok.exf, I.ok.bs, I.ok.bsz, I.ok.noex, I.ok.exfs, I.ok.funs, I.ok.frf⟩, I.os, I.bare, I.base, I.loc, I.cell, I.free, I.freeC, I.pin, I.hok, I.len⟩
theorem inv_unmarked {pins : List (Addr × Obj)} {σ : St} {H : Hp} {s : Shared} {e : Addr} (ok : X.Ok) (I : Inv (marked X e) pins σ H s) : Inv X pins σ H s :=
  ⟨ok, I.os, I.bare, I.base, I.loc, I.cell, I.free, I.freeC, I.pin, I.hok, I.len⟩
theorem name_goes {pins : List (Addr × Obj)} {σ : St} {H : Hp} {s : Shared} {i : Nat} {n : Str} {pos : Pos} {A : Around} {E : Value → Shared → Prop} {Q : Unit → Shared → Prop} (I : Inv X pins σ H s) (hN : X.N.Nodup) (hi : X.N[i]? = some n) (hk : X.env.scope.names.lookup n = some .local)
    (h : ∀ s', Inv X pins (σ.set i none) H s' → Q () s') : wpAny (model X.prog X.w) A (do bindName X.env n .none; unbindBehindTheSuite X.env n pos) Q E s := by
  obtain ⟨m, hn, hl⟩ := id I.loc
  have hcls : (X.env.scope.kind == .class || (X.env.scope.kind == .module && X.env.locals != X.env.globals)) = false := by rw [I.ok.kind]; rfl
  obtain ⟨oL, _, _, hoL, _⟩ := id hn
  refine wpAny_nameGoes_keeps hk hn hcls fun h' v hn' hs => h _ ?_
  have old : ∀ b o, X.s₀.heap.get? b = some o → b ≠ X.env.locals := fun b o e => Nat.ne_of_lt (Nat.lt_of_lt_of_le (Heap.lt_size e) I.ok.above)
  refine ⟨I.ok, I.os, I.bare, ⟨fun b o e m' hb hx => (hs.2 b (old b o e)).trans (I.base.keep b o e m' hb hx), fun b o e m' hb hx => ?_, I.base.free, fun b o e hx => ?_, I.base.tups, I.base.frzs, I.base.tbls⟩, ⟨_, hn', fun j y v' e1 e2 e3 => ?_⟩, fun y c e => ?_, I.free, I.freeC, fun p hp => ?_, fun b ob e => ?_, by simpa using I.len⟩
  · obtain ⟨sl, e1⟩ := I.base.slot b o e m' hb hx
    exact ⟨sl, (hs.2 b (old b o e)).trans e1⟩
  · obtain ⟨o', e1⟩ := I.base.there b o e hx
    exact ⟨o', (hs.2 b (old b o e)).trans e1⟩
  · by_cases hj : j = i
    · subst hj
      rw [List.getElem?_set] at e2
      split at e2
      · split at e2 <;> cases e2
      · rename_i z; exact absurd rfl z
    · rw [List.getElem?_set_ne (Ne.symm hj)] at e2
      obtain ⟨u', r', q⟩ := hl j y v' e1 e2 e3
      refine ⟨u', r', ?_⟩
      rcases q with ⟨k, e⟩ | ⟨k, c, e, z⟩
      · have ne : y ≠ n := fun e => hj (nodup_ix hN e1 (e ▸ hi))
        exact .inl ⟨k, by simp [ne, e]⟩
      · exact .inr ⟨k, c, e, z.sameBut hs (I.cne y c e)⟩
  · obtain ⟨w', z⟩ := I.cell y c e
    exact ⟨w', z.sameBut hs (I.cne y c e)⟩
  · obtain ⟨e, n', ne, nf, d⟩ := I.pin p hp
    exact ⟨(hs.2 p.1 ne).trans e, n', ne, nf, d⟩
  · refine (I.hok b ob e).stay (fun c w' hc q => (hs.2 c ?_).trans q) (fun _ q => q) fun _ _ q => q
    rintro rfl
    have hf := I.free
    rcases hc with rfl | hc
    · rw [hf] at e; cases e
    · rw [hf] at hc; cases hc
noncomputable def tTry (K : PySem.W.Frag) (CL : Addr) (i : Nat) (tb : TX) (ts : TS) : TS := fun D σ H => tb D (fun σ1 c H1 => PySem.W.exmOne K c (.ref CL) = some true ∧ ∀ (ea C : Addr), c = .ref C → H1 ea = none →
  ts { nx := fun σ2 H2 => D.nx (σ2.set i none) H2, rt := D.rt } (σ1.set i (some (.ref ea))) (upd H1 ea (excE ea C))) σ H
theorem ps_try {body : List Stmt} {tb : TX} {x n : Str} {CL : Addr} {i : Nat} {b0 : Stmt} {suite : List Stmt} {ts : TS} {np hpos pos : Pos} (hb : PX X body tb) (hg : Gl X x) (hm : X.mg x = some (.ref CL)) (hN : X.N.Nodup) (hi : X.N[i]? = some n) (hk : X.env.scope.names.lookup n = some .local)
    (hst : X.stack = X.env :: X.outer) (hfr : X.env.frame = some X.env.locals) (hs : ∀ e, PSs (marked X e) (b0 :: suite) ts) (hdb : (x == ("__debug__" : Str)) = false := by decide) :
    PS X (.Try body [.ExceptHandler (some (.Name x np)) (some n) (b0 :: suite) hpos] [] [] pos) (tTry X.K CL i tb ts) := by
  intro pins s σ H D I h
  refine wpAny_Try_except (wpAny_mono (hb pins s σ H D _ I h) (fun fl s1 q => ?_) fun e s1 q => ?_)
  · cases fl with
    | next => exact wpAny_execs_nil q
    | ret u => exact q
    | brk => exact q
    | cont => exact q
  obtain ⟨σ1, H1, s0, I1, ea, t, C, B, H', rfl, os, bare, un, hok, new, fre, fly, hB, hmat, hq⟩ := q
  have Ia : Inv X pins σ1 H' s1 := I1.call' os un hok bare (fun b z => absurd z (by simp))
  have hA : X.A.frames = some (X.env :: X.outer) := by rw [← hst]; exact I.ok.frames
  have land : ∀ h2, B.StaysIn h2 → s1.heap.UpToSlots h2 → Un (frs X.stack) [] H1 H' s0.heap h2 ∧ HOk X.prog X.w H' h2 ∧ Kept (frs X.stack) H' s0.heap h2 B := fun h2 z1 z2 => fly_un un hok (inv_stack Ia) hB z1 z2
  rw [hst] at fly
  refine wpAny_looks_onW hA hfr fly fun h4 held4 up4 => ?_
  refine wpAny_landsW held4 fun h5 fly5 up5 => ?_
  have up15 := up4.trans up5
  obtain ⟨un5, hok5, _⟩ := land h5 fly5.1 up15
  have I5 : Inv X pins σ1 H' { s1 with heap := h5 } := I1.call' (s' := { s1 with heap := h5 }) os un5 hok5 bare (fun b z => absurd z (by simp))
  refine wpAny_handleBy_cons (codeAny_handlers_test (ld_globA I5 hg hm ?_ hdb)) (by intro q; cases q)
  refine (PySem.W.exm_one I5.kIn (exc_ty fly5.there) hmat).here ?_
  refine codeAny_handlers_suite_as ?_
  refine lands_againW fly5 fun h6 fly6 up6 => ?_
  obtain ⟨un6, hok6, _⟩ := land h6 fly6.1 (up15.trans up6)
  obtain ⟨un7, hok7⟩ := fly_track un6 hok6 new fre fly6.there
  have I7 : Inv X pins σ1 (upd H' ea (excE ea C)) { s1 with heap := h6 } := I1.call' (s' := { s1 with heap := h6 }) os un7 hok7 bare (fun b z => absurd z (by simp))
  refine store_ok (v := .ref ea) I7 hN hi (.inl hk) rfl (fun s8 I8 => ?_) (.inr hk)
  refine wpAny_mono (hs ea pins s8 _ _ _ (inv_marked I8 ea) (hq ea C rfl fre)) (fun fl s9 q9 => ?_) fun _ _ z => False.elim z
  cases fl with
  | next =>
    obtain ⟨σ', H9, I9, q9⟩ := q9
    exact name_goes (inv_unmarked I8.ok I9) hN hi hk fun s' I' => ⟨_, _, I', q9⟩
  | ret u =>
    obtain ⟨v, σ', H9, I9, r9, q9⟩ := q9
    exact name_goes (inv_unmarked I8.ok I9) hN hi hk fun s' I' => ⟨v, _, _, I', r9, q9⟩
  | brk =>
    obtain ⟨_, _, _, q9⟩ := q9
    exact False.elim q9
  | cont =>
    obtain ⟨_, _, _, q9⟩ := q9
    exact False.elim q9
end
end L3
namespace L3
open PySem PySem.Spec PyProof.Rows L2
theorem bt_ValueError : bootBuiltins "ValueError" = some (.type "ValueError") := by decide +kernel
theorem Fd.calE {P : Program} {w : World} {K : PySem.W.Frag} {mg : Str → Option Value} {base : Heap} {x : Str} {st : Stmt} {f : Addr} {N ps : List Str} {k : Nat} {sp : Sp} (F : Fd K mg x st f) (S : FnScope N ps (defScope st))
    (hb : ∀ (kV doc pm : Value) (an : Option Addr) (cdv ct : Value) (us : List Value), us.length = ps.length → bindArgs (PySem.W.fnOf x x (defArgs st) (defBody st) (defScope st) .none kV doc pm an cdv ct) ⟨us, []⟩ = pure (ps.zip us))
    (len : ∀ vs H Q E, sp vs H Q E → vs.length = ps.length)
    (hbody : ∀ (cdv : Value) (A : Around) (outer : List Env) (s : Shared) (H : Hp) (vs : List V) (Q : VK) (E : XK), Room k (A.deeper (envOfC x (defScope st) s.heap.objs.size f cdv)) → sp vs H Q E →
      ∃ t, QSs (cxOf (CXE P w) P w K mg base N x (defScope st) f cdv A outer s H E) (defBody st) t ∧ t { nx := fun _ H' => Q .non H', rt := Q } (start N vs) H) : Cal P w K mg base (CXE P w) (k + 1) x sp := by
  obtain ⟨⟨fd, F1⟩, F2⟩ := F
  refine ⟨f, fd, ps, ?_, F2, F1.kp, F1.binds hb⟩
  obtain ⟨oc, od, kV, doc, pm, an, cdv, ct, osl, rfl, lk, hcd⟩ := F1.ex
  refine fn_of lk hcd S len fun A outer s H vs Q E hr hsp => ?_
  obtain ⟨t, p, q⟩ := hbody cdv A outer s H vs Q E hr hsp
  exact ⟨t, p.un, q⟩
theorem passN {P : Program} {w : World} {X : Cx} : Passes (CXE P w) X E0 := fun _ _ _ _ _ _ _ h => by
  obtain ⟨_, _, _, _, _, _, _, _, _, _, _, _, _, _, q⟩ := h
  exact q.elim
section
variable {X : Cx}
theorem PS.nox {st : Stmt} {t : TS} (h : PS X.nox st t) : PS X st t := fun pins s σ H D I hw =>
  wpAny_mono (h pins s σ H D (I.wish _) hw) (fun _ _ q => q.unwish) fun _ _ z => False.elim z
theorem snox {st : Stmt} {t : TS} (h : QS X.nox st t) : QS X st t := .mk (PS.nox h.un)
theorem qcl {x : Str} {C : Addr} {pos : Pos} (hg : Gl X x) (hm : X.mg x = some (.ref C)) (hd : (x == ("__debug__" : Str)) = false := by decide) : QE X (.Name x pos) (tC (.ref C)) := .mk (pe_glob hg hm rfl hd)
theorem fIsE (K : PySem.W.Frag) (hK : X.K = K := by rfl) : RCall X (.builtin "isinstance") (rIsE K) := by subst hK; exact .mk call_isE
@[irreducible] noncomputable def QX (X : Cx) (sts : List Stmt) (t : TX) : Prop := PX X sts t
theorem QX.un {sts : List Stmt} {t : TX} (h : QX X sts t) : PX X sts t := by unfold QX at h; exact h
theorem QX.mk {sts : List Stmt} {t : TX} (h : PX X sts t) : QX X sts t := by unfold QX; exact h
theorem xcall {k : Nat} {x : Str} {sp : Sp} {e : Expr} {es : List Expr} {t : TA} {p pos ep : Pos} (C : Cal X.prog X.w X.K X.mg X.base (CXE X.prog X.w) k x sp) (hr : Room k X.A) (hg : Gl X x) (ha : QA X.nox (e :: es) t)
    (hdb : (x == ("__debug__" : Str)) = false := by decide) (he : starEach (e :: es) X.env = (false, eval e X.env) :: starEach es X.env := by rfl) (hpl : (backTo pos (starEach es X.env)).any (·.1) = false := by rfl)
    (hs : swapsWith (.Call (.Name x p) (e :: es) [] pos) none ep.line X.env = pure false := by rfl) : QX X [.Expr (.Call (.Name x p) (e :: es) [] pos) ep] (xCall sp t) := .mk (px_call C hr hg ha.un hdb he hpl hs)
theorem stry {body : List Stmt} {tb : TX} {x n : Str} {CL : Addr} {i : Nat} {b0 : Stmt} {suite : List Stmt} {ts : TS} {np hpos pos : Pos} (K : PySem.W.Frag) (hb : QX X body tb) (hg : Gl X x) (hm : X.mg x = some (.ref CL)) (hN : X.N.Nodup) (hi : X.N[i]? = some n) (hk : X.env.scope.names.lookup n = some .local)
    (hst : X.stack = X.env :: X.outer) (hfr : X.env.frame = some X.env.locals) (hs : ∀ e, QSs (marked X e) (b0 :: suite) ts) (hdb : (x == ("__debug__" : Str)) = false := by decide) (hK : X.K = K := by rfl) :
    QS X (.Try body [.ExceptHandler (some (.Name x np)) (some n) (b0 :: suite) hpos] [] [] pos) (tTry K CL i tb ts) := by subst hK; exact .mk (ps_try hb.un hg hm hN hi hk hst hfr (fun e => (hs e).un) hdb)
end
section
variable {P : Program} {w : World} {K : PySem.W.Frag} {mg : Str → Option Value} {base : Heap} {N : List Str} {qual : Str} {scope : Scope} {f : Addr} {cd : Value} {A : Around} {outer : List Env} {s : Shared} {H : Hp} {E : XK}
theorem sraise {x : Str} {C : Addr} {e0 : Expr} {es : List Expr} {t : TA} {np cpos pos : Pos} (R : ErrK K mg x C) (hg : Gl (cxOf (CXE P w) P w K mg base N qual scope f cd A outer s H E) x) (ha : QA (cxOf (CXE P w) P w K mg base N qual scope f cd A outer s H E) (e0 :: es) t)
    (hdb : (x == ("__debug__" : Str)) = false := by decide) (he : starEach (e0 :: es) (cxOf (CXE P w) P w K mg base N qual scope f cd A outer s H E).env = (false, eval e0 (cxOf (CXE P w) P w K mg base N qual scope f cd A outer s H E).env) :: starEach es (cxOf (CXE P w) P w K mg base N qual scope f cd A outer s H E).env := by rfl)
    (hpl : (backTo cpos (starEach es (cxOf (CXE P w) P w K mg base N qual scope f cd A outer s H E).env)).any (·.1) = false := by rfl) :
    QS (cxOf (CXE P w) P w K mg base N qual scope f cd A outer s H E) (.Raise (some (.Call (.Name x np) (e0 :: es) [] cpos)) none pos) (tRaise E C t) := .mk (ps_raise R hg ha.un hdb he hpl)
end
end L3
namespace L3
open PySem PySem.SeqAt PySem.Spec PyProof.Rows L2
section
variable {X : Cx}
end
section
variable {X : Cx}
end
end L3
namespace L3
open PySem L2
theorem for_listN {K : PySem.W.Frag} {a : Addr} {xs : List V} {g : TG} {tb : TS} {D : Ends} {σ : L2.St} {H : Hp} (Pv : Nat → L2.St → Hp → Prop) (h0 : Pv 0 σ H) (hl : ∀ i σ H, i ≤ xs.length → Pv i σ H → SqL K H a xs)
    (hs : ∀ (N B : L2.St → Hp → Prop) (R : VK) i x σ H, xs[i]? = some x → (∀ σ H, Pv (i + 1) σ H → N σ H) → (∀ σ H, D.nx σ H → B σ H) → (∀ v H, D.rt v H → R v H) → Pv i σ H → g x σ H fun σ2 H2 => tb ⟨N, R, B, N⟩ σ2 H2) (hd : ∀ σ H, Pv xs.length σ H → D.nx σ H) :
    ∃ W : Nat → Nat → L2.St → Hp → Prop, (∃ m, W 0 m σ H) ∧ ∀ i m σ H, W i m σ H →
      ((Itl K a).stop i H ∧ D.nx σ H) ∨ ((Itl K a).go i H ∧ ∃ N : L2.St → Hp → Prop, (∀ σ' H', N σ' H' → ∃ m', m' < m ∧ W (i + 1) m' σ' H') ∧ ∀ x H', (Itl K a).yld i H x H' → g x σ H' fun σ2 H2 => tb { D with nx := N, ct := N, bk := D.nx } σ2 H2) :=
  for_list Pv h0 hl (fun i x σ H hx hp => hs _ _ _ i x σ H hx (fun _ _ h => h) (fun _ _ h => h) (fun _ _ h => h) hp) hd
end L3
namespace L3
open PySem PySem.Spec PyProof.Rows L2
section
variable {P : Program} {w : World} {K : PySem.W.Frag} {mg : Str → Option Value} {base : Heap} {C f : Addr} {x q : Str} {st : Stmt} {N ps : List Str} {k : Nat} {sp : Sp}
end
section
variable {X : Cx}
noncomputable def xIf (tc : TT) (t1 t2 : TX) : TX := fun D EX σ H => tc σ H fun b H1 => if b = true then t1 D EX σ H1 else t2 D EX σ H1
theorem xif {c : Expr} {b1 b2 : List Stmt} {tc : TT} {t1 t2 : TX} {pos : Pos} (hc : QT X.nox c tc) (h1 : QX X b1 t1) (h2 : QX X b2 t2) : QX X [.If c b1 b2 pos] (xIf tc t1 t2) := by
  refine .mk fun pins s σ H D EX I h => ?_
  refine wpAny_execs_cons (wpAny_If (wpAny_mono (hc.un pins s σ H _ (I.wish _) h) (fun d s1 ⟨H1, I1, q1⟩ => ?_) fun _ _ z => False.elim z))
  have fin : ∀ (sts : List Stmt) (t : TX), QX X sts t → t D EX σ H1 → wpAny (model X.prog X.w) X.A (execs sts X.env) (fun f s2 => match f with | .next => wpAny (model X.prog X.w) X.A (execs [] X.env) (SP X pins D) (Flown X pins EX) s2 | f => SP X pins D f s2) (Flown X pins EX) s1 := fun sts t hq hw =>
    wpAny_mono (hq.un pins s1 σ H1 D EX I1.unwish hw) (fun fl s2 q => by
      cases fl with
      | next => exact wpAny_execs_nil q
      | ret u => exact q
      | brk => exact q
      | cont => exact q) fun _ _ z => z
  cases d with
  | true => exact fin b1 t1 h1 q1
  | false => exact fin b2 t2 h2 q1
end
end L3
namespace L3
open PySem PySem.Spec PyProof.Rows L2
theorem leave_any {M : Model} {A : Around} {E : Value → Shared → Prop} {s : Shared} {base : Heap} {env : Env} {outer : List Env} {L e : Addr} {cls a0 fl : Value} {Q : Unit → Shared → Prop}
    (fr : A.frames = some (env :: outer)) (ef : env.frame = some L) (st : base.StaysIn s.heap) (be : base.get? e = none) (ff : s.heap.FunFrames base (env :: outer)) (tr : s.heap.TracedAtW base e cls a0 fl)
    (k : ∀ h', Heap.FlyingW base outer e cls a0 h' → s.heap.UpToSlots h' → Q () { s with heap := h' }) : wpAny M A (leaving env (.ref e)) Q E s := by
  by_cases same : fl = rawInt L
  · subst same
    unfold leaving
    refine wpAny_bind (wpAny_noteFrame_againW ef tr (wpAny_landsW (l := env :: outer) ⟨st, be, ff, tr⟩ fun h' fl' up => ?_))
    obtain ⟨g1, g2, ⟨_, _, g3⟩, g4⟩ := fl'
    exact k h' ⟨g1, g2, g3, g4⟩ up
  · obtain ⟨oe, vs, T, oT, ts, ge, ⟨gc, g0⟩, gd, g1, bT, Te, gT, dT, g3⟩ := tr
    subst gc
    have z1 : (Value.ref T != Value.none) = true := by simp
    have z2 : ¬ ((fl == rawInt L) = true) := fun z => same (by simpa using z)
    have oth : ∀ b, b ≠ T → (s.heap.update T (Obj.mapFields (·.setIfInBounds 3 Value.none))).get? b = s.heap.get? b := fun b hb => Heap.get?_update_other _ _ hb.symm
    have nT : ∀ b o, s.heap.get? b = some o → (∀ us, o.data ≠ .fields us) → b ≠ T := fun b o hb hn z => by
      rw [z, gT] at hb
      cases hb
      exact hn ts dT
    unfold leaving noteFrame
    simp only [ef]
    refine wpAny_bind (wpAny_bind (wpAny_field ge gd g1 ?_))
    rw [if_pos z1]
    refine wpAny_bind (wpAny_field gT dT g3 ?_)
    rw [if_neg z2]
    refine wpAny_bind (wpAny_setField gT dT (Array.getElem?_eq_some_iff.mp g3).1 ?_)
    refine wpAny_newEntryW fr (ff.of_keeps fun b o hb hn => ⟨o, (oth b (nT b o hb hn)).trans hb, rfl⟩) ef ((oth e Te.symm).trans ge) (fun b o hb => (oth b (fun z => by rw [z, bT] at hb; cases hb)).trans (st b o hb)) be gd (Array.getElem?_eq_some_iff.mp g1).1 g0 fun h' lf => ?_
    obtain ⟨x1, ⟨_, _, x2⟩, x3, x4⟩ := lf
    exact k h' ⟨x1, be, x2, x3⟩ fun b o hb hn => x4 b o ((oth b (nT b o hb hn)).trans hb) hn
theorem fly_un2 {P : Program} {w : World} {fs : List Addr} {H H' : Hp} {h h1 h2 B : Heap} (u : Un fs [] H H' h h1) (hok : HOk P w H' h1) (hfr : ∀ b ∈ fs, H' b = none ∧ ∃ o, h1.get? b = some o ∧ ∀ vs, o.data ≠ .fields vs)
    (hB : Kept fs H' h h1 B) (st : B.StaysIn h2) (up : ∀ b ∈ fs, ∀ o, h1.get? b = some o → (∀ vs, o.data ≠ .fields vs) → ∃ sl, h2.get? b = some { o with slots := sl }) : Un fs [] H H' h h2 ∧ HOk P w H' h2 ∧ Kept fs H' h h2 B := by
  have kept : ∀ b o, h1.get? b = some o → b ∉ fs → ((∃ u, H' b = some u) ∨ ∃ o', h.get? b = some o') → h2.get? b = some o := fun b o e nf z => st _ _ (hB b o e nf z)
  have nfr : ∀ b v, H' b = some v → b ∉ fs := fun b v e z => by rw [(hfr b z).1] at e; cases e
  refine ⟨⟨fun b o q n hb hx => kept b o (u.keep b o q n hb hx) hb (.inr ⟨o, q⟩), fun b o q n hb hx => ?_, u.free, fun b o q hx => ?_, u.tups, u.frzs, u.tbls⟩, fun a o e => ?_, fun b o e nf z => ?_⟩
  · obtain ⟨sl, e⟩ := u.slot b o q n hb hx
    obtain ⟨_, o1, ho1, hd⟩ := hfr b hb
    rw [e] at ho1
    cases ho1
    obtain ⟨sl', e'⟩ := up b hb _ e hd
    exact ⟨sl', e'⟩
  · obtain ⟨o', e⟩ := u.there b o q hx
    by_cases hb : b ∈ fs
    · obtain ⟨_, o1, ho1, hd⟩ := hfr b hb
      obtain ⟨sl', e'⟩ := up b hb o1 ho1 hd
      exact ⟨_, e'⟩
    · exact ⟨o', kept b o' e hb (.inr ⟨o, q⟩)⟩
  · refine (hok a o e).stay (fun b v hb q => kept b v q ?_ (.inl ?_)) (fun _ q => q) fun _ _ q => q
    · rcases hb with rfl | hb
      · exact nfr _ _ e
      · exact nfr _ _ hb
    · rcases hb with rfl | hb
      · exact ⟨_, e⟩
      · exact ⟨_, hb⟩
  · obtain ⟨o1, e1⟩ : ∃ o1, h1.get? b = some o1 := by
      rcases z with ⟨v, e'⟩ | ⟨o', e'⟩
      · exact objok_there (hok b v e')
      · exact u.there b o' e' (by simp)
    have := kept b o1 e1 nf z
    rw [e] at this
    cases this
    exact hB b _ e1 nf z
theorem funFrames_but {base h h' : Heap} {c : Addr} (k : ∀ b, b ≠ c → h'.get? b = h.get? b) : ∀ {l : List Env}, h.FunFrames base l → (∀ env ∈ l, env.frame ≠ some c) → h'.FunFrames base l
  | [], _, _ => trivial
  | env :: _, ⟨a1, ⟨L, o, a2, a3, a4, a5⟩, a6⟩, n => ⟨a1, ⟨L, o, a2, a3, (k L (fun z => n env (.head _) (by rw [a2, z]))).trans a4, a5⟩, funFrames_but k a6 fun e he => n e (.tail _ he)⟩
section
variable {P : Program} {w : World} {K : PySem.W.Frag} {mg : Str → Option Value} {base : Heap} {N : List Str} {qual : Str} {scope : Scope} {f : Addr} {cd : Value} {A : Around} {outer : List Env} {s : Shared} {H : Hp} {E : XK}
theorem leaveC {pins : List (Addr × Obj)} {σ : St} {H' : Hp} {s' : Shared} {ea t cl Cl : Addr} {B : Heap} {m : Str → Option Value} {acc : Value} {Q' : Value → Shared → Prop} {csc : Scope} {clo : List (Str × Addr)}
    (Io : Inv (cxOf (CXE P w) P w K mg base N qual scope f cd A outer s H E) pins σ H' s') (fly : Heap.FlyingW B (envOfC qual scope s.heap.objs.size f cd :: outer) ea (.ref cl) (.ref t) s'.heap)
    (hK : ∀ b o, s'.heap.get? b = some o → b ∉ frs (envOfC qual scope s.heap.objs.size f cd :: outer) → ((∃ u, H' b = some u) ∨ ∃ o', s.heap.get? b = some o') → B.get? b = some o)
    (new : s.heap.get? ea = none) (fre : H' ea = none) (hns : s'.heap.Ns Cl m) (hCl : H' Cl = none) (hCs : s.heap.objs.size ≤ Cl) (hCf : Cl ∉ frs (envOfC qual scope s.heap.objs.size f cd :: outer)) (q : E (.ref cl) none H') :
    notedBy (model P w) (cxOf (CXE P w) P w K mg base N qual scope f cd A outer s H E).A (compEnvC csc clo Cl (envOfC qual scope s.heap.objs.size f cd)) (fun e s'' => compPost (model P w) (cxOf (CXE P w) P w K mg base N qual scope f cd A outer s H E).A (cxOf (CXE P w) P w K mg base N qual scope f cd A outer s H E).xe none Q' acc Cl (.error e) s'') (.ref ea) s' := by
  have kB : (PySem.W.hideAll B [Cl]).StaysIn B := fun b o e => PySem.W.of_hideAll _ e
  have hnC : (PySem.W.hideAll B [Cl]).get? Cl = none := PySem.W.hideAll_none _ (by simp)
  obtain ⟨f1, f2, f3, oe, vs, T, oT, ts, ge, gc, gd, g1, bT, Te, gT, dT, g3⟩ := fly
  have none_of : ∀ b, B.get? b = none → (PySem.W.hideAll B [Cl]).get? b = none := fun b hb => by
    cases z : (PySem.W.hideAll B [Cl]).get? b with
    | none => rfl
    | some o => rw [kB b o z] at hb; cases hb
  have fly' : Heap.FlyingW (PySem.W.hideAll B [Cl]) (envOfC qual scope s.heap.objs.size f cd :: outer) ea (.ref cl) (.ref t) s'.heap :=
    ⟨fun b o e => f1 b o (kB b o e), none_of _ f2, PySem.W.funFrames_base kB f3, oe, vs, T, oT, ts, ge, gc, gd, g1, none_of _ bT, Te, gT, dT, g3⟩
  show wpAny _ _ (noteFrame (.ref ea) (envOfC qual scope s.heap.objs.size f cd)) _ _ _
  refine wpAny_looks_onW Io.ok.frames rfl fly' fun h4 held4 up4 => ?_
  have ns4 := up4.ns hns
  refine ⟨m, ns4, fun h5 sb cenv _ => ?_⟩
  obtain ⟨oC, es, ep, hoC, hdC, _⟩ := ns4
  obtain ⟨k1, k2, k3, oe, vs, T, oT, ts, ge, gc, gd, g1, bT, Te, gT, dT, g3⟩ := held4
  have eC : ∀ b o us, h4.get? b = some o → o.data = .fields us → b ≠ Cl := fun b o us e d z => by
    rw [z, hoC] at e
    cases e
    rw [hdC] at d; cases d
  have ge5 := (sb.2 ea (eC _ _ _ ge gd)).trans ge
  have gT5 := (sb.2 T (eC _ _ _ gT dT)).trans gT
  have fC : ∀ env ∈ envOfC qual scope s.heap.objs.size f cd :: outer, env.frame ≠ some Cl := fun env he z => hCf (List.mem_filterMap.mpr ⟨env, he, z⟩)
  have k5 := funFrames_but sb.2 k3 fC
  have st5 : (PySem.W.hideAll B [Cl]).StaysIn h5 := fun b o e => (sb.2 b (fun z => by rw [z, hnC] at e; cases e)).trans (k1 b o e)
  have z1 : (Value.ref T == Value.none) = false := by simp
  have z2 : (Value.ref T != Value.none) = true := by simp
  unfold PySem.passOn
  refine wpAny_bind (wpAny_field ge5 gd g1 ?_)
  rw [z1]
  refine wpAny_bind ?_
  unfold setFlight
  refine wpAny_bind (wpAny_field ge5 gd g1 ?_)
  rw [if_pos z2]
  refine wpAny_setField gT5 dT (Array.getElem?_eq_some_iff.mp g3).1 ?_
  refine wpAny_throw ?_
  have oth : ∀ b, b ≠ T → (h5.update T (Obj.mapFields (·.setIfInBounds 3 (cenv.frame.elim Value.none fun f => rawInt f)))).get? b = h5.get? b := fun b hb => Heap.get?_update_other _ _ hb.symm
  have s3 := (Array.getElem?_eq_some_iff.mp g3).1
  have nT : ∀ b o, h5.get? b = some o → (∀ us, o.data ≠ .fields us) → b ≠ T := fun b o hb hn z => by
    rw [z, gT5] at hb
    cases hb
    exact hn ts dT
  show wpAny (model P w) (cxOf (CXE P w) P w K mg base N qual scope f cd A outer s H E).A (leaving (envOfC qual scope s.heap.objs.size f cd) (.ref ea)) _ _ _
  refine leave_any (base := PySem.W.hideAll B [Cl]) (cls := .ref cl) (a0 := .ref t) (fl := cenv.frame.elim Value.none fun f => rawInt f) Io.ok.frames rfl (fun b o e => (oth b (fun z => by rw [z, bT] at e; cases e)).trans (st5 b o e)) k2
    (k5.of_keeps fun b o hb hn => ⟨o, (oth b (nT b o hb hn)).trans hb, rfl⟩) ⟨oe, vs, T, _, _, (oth ea Te.symm).trans ge5, gc, gd, g1, bT, Te, Heap.get?_update_self _ gT5 (Obj.isFreed_of_fields (Obj.data_mapFields dT _)), Obj.data_mapFields dT _, by simp [s3]⟩ fun h7 fly7 up7 => ?_
  have hL : ∀ b, b ∉ frs outer → ((∃ u, H' b = some u) ∨ ∃ o', s.heap.get? b = some o') → b ∉ frs (envOfC qual scope s.heap.objs.size f cd :: outer) := fun b nf z hb => by
    rcases List.mem_cons.mp (Io.stkSub b hb) with e | hb
    · rcases z with ⟨u, z⟩ | ⟨o, z⟩
      · rw [e] at z
        rw [show H' _ = none from Io.free] at z
        cases z
      · rw [e] at z
        exact absurd (Heap.lt_size z) (Nat.lt_irrefl _)
    · exact nf hb
  have bC : ∀ b, ((∃ u, H' b = some u) ∨ ∃ o', s.heap.get? b = some o') → b ∉ [Cl] := fun b z hb => by
    rw [List.mem_singleton] at hb
    subst hb
    rcases z with ⟨u, z⟩ | ⟨o, z⟩
    · rw [hCl] at z; cases z
    · exact absurd (Heap.lt_size z) (Nat.not_lt.mpr hCs)
  obtain ⟨un, hok, kp⟩ := fly_un2 (h2 := h7) (show Un (frs outer) [] H H' s.heap s'.heap from Io.base) (show HOk P w H' s'.heap from Io.hok) (inv_frames Io)
    (B := PySem.W.hideAll B [Cl]) (fun b o e nf z => PySem.W.hideAll_get _ (hK b o e (hL b nf z) z) (bC b z)) fly7.1 (fun b hb o e hd => by
      obtain ⟨sl, e4⟩ := up4 b o e hd
      have bne : b ≠ Cl := fun z => by
        subst z
        obtain ⟨e', he, q'⟩ := List.mem_filterMap.mp hb
        exact hCf (List.mem_filterMap.mpr ⟨e', .tail _ he, q'⟩)
      have e5 := (sb.2 b bne).trans e4
      have e6 := (oth b (nT b _ e5 hd)).trans e5
      obtain ⟨sl', e7⟩ := up7 b _ e6 hd
      exact ⟨sl', e7⟩)
  exact ⟨ea, t, cl, _, H', rfl, Io.os, Io.bare, un, hok, new, fre, fly7, kp, q⟩
end
section
variable {X : Cx} {pins : List (Addr × Obj)} {σ : St} {H2 : Hp} {s2 : Shared}
end
noncomputable def XEC (X : Cx) (N' : List Str) (scope : Scope) (fp : List Addr) (E' : XK) (s3 : Shared) (H3 : Hp) (e : Value) (s' : Shared) : Prop := ∃ (pins' : List (Addr × Obj)) (σ' : St) (H1 : Hp) (s1 : Shared), Inv (cxC X N' scope fp s3 H3) pins' σ' H1 s1 ∧ CXE X.prog X.w X.stack H1 s1 E' e s'
theorem passX {X : Cx} {N' : List Str} {scope : Scope} {fp : List Addr} {E' : XK} {s3 : Shared} {H3 : Hp} : Passes (CXE X.prog X.w) (cxX X N' scope fp s3 H3 (XEC X N' scope fp E' s3 H3)) E' := fun pins σ H s e s' I h => ⟨pins, σ, H, s, I.unwish, h⟩
section
variable {P : Program} {w : World} {K : PySem.W.Frag} {mg : Str → Option Value} {base : Heap} {N : List Str} {qual : Str} {scope : Scope} {f : Addr} {cd : Value} {A : Around} {outer : List Env} {s : Shared} {H : Hp} {E : XK}
theorem pe_compX {elt target iter : Expr} {ifs : List Expr} {cscope : Scope} {pos : Pos} {wi : TI} {g : TG} {tt : TT} {te : TE} {sc : Scope} {NX : List Str} (N' : List Str) (cs : List (Option Nat))
    (hi : PI (cxOf (CXE P w) P w K mg base N qual scope f cd A outer s H E) target iter wi) (hg : ∀ fp s3 H3, PG (cxC (cxOf (CXE P w) P w K mg base N qual scope f cd A outer s H E) N' cscope fp s3 H3) target g) (ht : ∀ fp s3 H3, PTs (cxC (cxOf (CXE P w) P w K mg base N qual scope f cd A outer s H E) N' cscope fp s3 H3) ifs tt)
    (he : ∀ fp s3 H3, PE (cxX (cxOf (CXE P w) P w K mg base N qual scope f cd A outer s H E) N' cscope fp s3 H3 (XEC (cxOf (CXE P w) P w K mg base N qual scope f cd A outer s H E) N' cscope fp E s3 H3)) elt te)
    (hsc : scope = sc) (hN : N = NX) (hcs : csOk sc NX N' cs cscope = true) (hs : ∀ x, foldedSetIterable iter (cxOf (CXE P w) P w K mg base N qual scope f cd A outer s H E).env x = pure x := by intro _; rfl) :
    PE (cxOf (CXE P w) P w K mg base N qual scope f cd A outer s H E) (.ListComp elt [⟨target, iter, ifs, 0⟩] cscope pos) (tComp cs wi g tt te) := by
  intro pins s0 σ H0 Q I h
  subst hsc hN
  have F : CsOk (cxOf (CXE P w) P w K mg base N qual scope f cd A outer s H E).env.scope (cxOf (CXE P w) P w K mg base N qual scope f cd A outer s H E).N N' cs cscope := CsOk.of hcs
  rw [eval_ListComp]
  refine wpAny_comprehension_free (use := none) rfl hs (closure_ok fun y hy e => I.ok.has y.1 (F.free y hy e)) F.kind F.names ?_
  refine thn (hi pins s0 σ H0 _ I h) fun v s1 h1 => thn h1 fun itv s2 h2 => ?_
  obtain ⟨it, fp, tn, J, H2, rfl, I2, T, st2, f2, hW⟩ := h2
  refine comp_coreX (XE := fun s3 H3 => XEC (cxOf (CXE P w) P w K mg base N qual scope f cd A outer s H E) N' cscope fp E s3 H3) (RR := fun acc C => compPost (model P w) (cxOf (CXE P w) P w K mg base N qual scope f cd A outer s H E).A (cxOf (CXE P w) P w K mg base N qual scope f cd A outer s H E).xe none (EP (cxOf (CXE P w) P w K mg base N qual scope f cd A outer s H E) pins σ Q) acc C) (Q := Q) rfl F (hg fp) (ht fp) (he fp) I2 T st2 f2 hW ?_ ?_
  · intro D C s' H' m I' hn hC hL hsz hcell hpin q
    refine ⟨m, hn, fun h' hs' => ⟨.ref D, H', ?_, rfl, q⟩⟩
    exact I'.turned (t' := s'.toks) (it := C) (fun b o hb e => (hs'.2 b hb).trans e) hC hL (.inr hsz) hcell hpin
  · rintro D s3 H3 I3 hch e s' ⟨pins', σ', H1, s1, I1, ea, t, cl, B, H', rfl, os, bare, un, hok, new, fre, fly, hB, q⟩
    have I1' := I1.call' os un hok bare (fun b z => absurd z (by simp))
    have Io := I3.call' I1'.os I1'.base I1'.hok I1'.bare hch
    obtain ⟨m, hn, _⟩ := I1'.loc
    have thr : ∀ b o, s.heap.get? b = some o → ∃ o', s1.heap.get? b = some o' := fun b o e => by
      obtain ⟨o1, e1⟩ := I3.base.there b o e (fun z => nomatch z)
      refine I1.base.there b o1 e1 fun hb => ?_
      rcases (hch b hb).1 with z | z
      · exact nomatch z
      · exact absurd (Heap.lt_size e) (Nat.not_lt.mpr z)
    refine leaveC Io fly (fun b o e nf z => hB b o e nf (z.elim .inl fun ⟨o', z⟩ => .inr (thr b o' z))) ?_ fre hn I1'.free I3.sz (fun hb => ?_) q
    · cases z : s.heap.get? ea with
      | none => rfl
      | some o =>
        obtain ⟨o', e'⟩ := thr ea o z
        rw [new] at e'; cases e'
    · obtain ⟨_, o, ho, _⟩ := I3.stack.mem hb
      exact absurd (Heap.lt_size ho) (Nat.lt_irrefl _)
theorem qcompX {elt target iter : Expr} {ifs : List Expr} {cscope : Scope} {pos : Pos} {wi : TI} {g : TG} {tt : TT} {te : TE} {sc : Scope} {NX : List Str} (N' : List Str) (cs : List (Option Nat)) (hc : (0 : Nat) = 0)
    (hi : QI (cxOf (CXE P w) P w K mg base N qual scope f cd A outer s H E) target iter wi) (hg : ∀ fp s3 H3, QG (cxC (cxOf (CXE P w) P w K mg base N qual scope f cd A outer s H E) N' cscope fp s3 H3) target g) (ht : ∀ fp s3 H3, QTs (cxC (cxOf (CXE P w) P w K mg base N qual scope f cd A outer s H E) N' cscope fp s3 H3) ifs tt)
    (he : ∀ fp s3 H3, QE (cxX (cxOf (CXE P w) P w K mg base N qual scope f cd A outer s H E) N' cscope fp s3 H3 (XEC (cxOf (CXE P w) P w K mg base N qual scope f cd A outer s H E) N' cscope fp E s3 H3)) elt te)
    (hsc : scope = sc) (hN : N = NX) (hcs : csOk sc NX N' cs cscope = true) (hs : ∀ x, foldedSetIterable iter (cxOf (CXE P w) P w K mg base N qual scope f cd A outer s H E).env x = pure x := by intro _; rfl) :
    QE (cxOf (CXE P w) P w K mg base N qual scope f cd A outer s H E) (.ListComp elt [⟨target, iter, ifs, 0⟩] cscope pos) (tComp cs wi g tt te) :=
  .mk (pe_compX N' cs hi.un (fun fp s3 H3 => (hg fp s3 H3).un) (fun fp s3 H3 => (ht fp s3 H3).un) (fun fp s3 H3 => (he fp s3 H3).un) hsc hN hcs hs)
end
end L3
namespace K48
open PySem L2 L3
noncomputable def top (i : Nat) : Stmt := PySem.Challenge.pw_leafpages_k48_texts_refused.main.body.getD i (.Pass ⟨0, 0, 0, 0⟩)
noncomputable abbrev s_is_whole : Stmt := top 11
theorem sc_is_whole : FnScope ["thing"] ["thing"] (defScope s_is_whole) := ⟨rfl, rfl, rfl, by decide +kernel, rfl, by decide +kernel, by decide +kernel⟩
noncomputable abbrev s_is_knot : Stmt := top 12
theorem sc_is_knot : FnScope ["thing"] ["thing"] (defScope s_is_knot) := ⟨rfl, rfl, rfl, by decide +kernel, rfl, by decide +kernel, by decide +kernel⟩
noncomputable abbrev s_lies_between : Stmt := top 13
theorem sc_lies_between : FnScope ["thing", "low", "high", "key"] ["thing", "low", "high"] (defScope s_lies_between) := ⟨rfl, rfl, rfl, by decide +kernel, rfl, by decide +kernel, by decide +kernel⟩
noncomputable abbrev s_is_tree : Stmt := top 14
theorem sc_is_tree : FnScope ["thing"] ["thing"] (defScope s_is_tree) := ⟨rfl, rfl, rfl, by decide +kernel, rfl, by decide +kernel, by decide +kernel⟩
noncomputable abbrev s_keys_of : Stmt := top 15
theorem sc_keys_of : FnScope ["tree"] ["tree"] (defScope s_keys_of) := ⟨rfl, rfl, rfl, by decide +kernel, rfl, by decide +kernel, by decide +kernel⟩
noncomputable abbrev s_show_tree : Stmt := top 20
theorem sc_show_tree : FnScope ["tree", "left", "key", "right"] ["tree"] (defScope s_show_tree) := ⟨rfl, rfl, rfl, by decide +kernel, rfl, by decide +kernel, by decide +kernel⟩
noncomputable abbrev s_show_keys : Stmt := top 21
theorem sc_show_keys : FnScope ["keys"] ["keys"] (defScope s_show_keys) := ⟨rfl, rfl, rfl, by decide +kernel, rfl, by decide +kernel, by decide +kernel⟩
noncomputable abbrev s_show_layout : Stmt := top 22
theorem sc_show_layout : FnScope ["layout"] ["layout"] (defScope s_show_layout) := ⟨rfl, rfl, rfl, by decide +kernel, rfl, by decide +kernel, by decide +kernel⟩
noncomputable abbrev s_has_figures_alone : Stmt := top 23
theorem sc_has_figures_alone : FnScope ["word"] ["word"] (defScope s_has_figures_alone) := ⟨rfl, rfl, rfl, by decide +kernel, rfl, by decide +kernel, by decide +kernel⟩
noncomputable abbrev s_read_number : Stmt := top 24
theorem sc_read_number : FnScope ["word", "figures"] ["word"] (defScope s_read_number) := ⟨rfl, rfl, rfl, by decide +kernel, rfl, by decide +kernel, by decide +kernel⟩
noncomputable abbrev s_behind : Stmt := top 25
theorem sc_behind : FnScope ["text", "place", "sign"] ["text", "place", "sign"] (defScope s_behind) := ⟨rfl, rfl, rfl, by decide +kernel, rfl, by decide +kernel, by decide +kernel⟩
noncomputable abbrev s_tree_from : Stmt := top 26
theorem sc_tree_from : FnScope ["text", "place", "left", "key_place", "word", "right"] ["text", "place"] (defScope s_tree_from) := ⟨rfl, rfl, rfl, by decide +kernel, rfl, by decide +kernel, by decide +kernel⟩
noncomputable abbrev s_read_tree : Stmt := top 27
theorem sc_read_tree : FnScope ["text", "told"] ["text"] (defScope s_read_tree) := ⟨rfl, rfl, rfl, by decide +kernel, rfl, by decide +kernel, by decide +kernel⟩
noncomputable abbrev s_read_page : Stmt := top 28
theorem sc_read_page : FnScope ["text"] ["text"] (defScope s_read_page) := ⟨rfl, rfl, rfl, by decide +kernel, rfl, by decide +kernel, by decide +kernel⟩
noncomputable abbrev s_read_layout : Stmt := top 29
theorem sc_read_layout : FnScope ["text", "layout"] ["text"] (defScope s_read_layout) := ⟨rfl, rfl, rfl, by decide +kernel, rfl, by decide +kernel, by decide +kernel⟩
noncomputable abbrev s_law_pen : Stmt := top 31
theorem sc_law_pen : FnScope ["_law_script", "_law_k", "_law_cell"] ["_law_script", "_law_k"] (defScope s_law_pen) := ⟨rfl, rfl, rfl, by decide +kernel, rfl, by decide +kernel, by decide +kernel⟩
noncomputable abbrev s_law_draw : Stmt := top 32
theorem sc_law_draw : FnScope ["_law_pen_here", "_law_many", "_law_drawn", "_law_number"] ["_law_pen_here", "_law_many"] (defScope s_law_draw) := ⟨rfl, rfl, rfl, by decide +kernel, rfl, by decide +kernel, by decide +kernel⟩
noncomputable abbrev s_law_tree_text : Stmt := top 33
theorem sc_law_tree_text : FnScope ["_law_pen_here", "_law_many", "_law_key", "_law_form", "_law_text", "_law_heap", "_law_here", "_law_left"] ["_law_pen_here", "_law_many"] (defScope s_law_tree_text) := ⟨rfl, rfl, rfl, by decide +kernel, rfl, by decide +kernel, by decide +kernel⟩
noncomputable abbrev s_law_layout_text : Stmt := top 34
theorem sc_law_layout_text : FnScope ["_law_pen_here", "_law_many", "_law_pages", "_law_k"] ["_law_pen_here", "_law_many"] (defScope s_law_layout_text) := ⟨rfl, rfl, rfl, by decide +kernel, rfl, by decide +kernel, by decide +kernel⟩
noncomputable abbrev s_law_word : Stmt := top 35
theorem sc_law_word : FnScope ["_law_pen_here", "_law_some"] ["_law_pen_here"] (defScope s_law_word) := ⟨rfl, rfl, rfl, by decide +kernel, rfl, by decide +kernel, by decide +kernel⟩
noncomputable abbrev s_law_bent : Stmt := top 36
theorem sc_law_bent : FnScope ["_law_pen_here", "_law_text", "_law_kind", "_law_at", "_law_to", "_law_sign", "_law_low", "_law_high", "_law_words", "_law_place"] ["_law_pen_here", "_law_text"] (defScope s_law_bent) := ⟨rfl, rfl, rfl, by decide +kernel, rfl, by decide +kernel, by decide +kernel⟩
noncomputable abbrev s_law_is_key : Stmt := top 37
theorem sc_law_is_key : FnScope ["_law_word_here", "_law_figures"] ["_law_word_here"] (defScope s_law_is_key) := ⟨rfl, rfl, rfl, by decide +kernel, rfl, by decide +kernel, by decide +kernel⟩
noncomputable abbrev s_law_items : Stmt := top 38
theorem sc_law_items : FnScope ["_law_text", "_law_items_here", "_law_word_here", "_law_sign"] ["_law_text"] (defScope s_law_items) := ⟨rfl, rfl, rfl, by decide +kernel, rfl, by decide +kernel, by decide +kernel⟩
noncomputable abbrev s_law_tree_of : Stmt := top 39
theorem sc_law_tree_of : FnScope ["_law_text", "_law_heap", "_law_keys", "_law_item", "_law_head", "_law_left", "_law_one", "_law_word_here", "_law_other", "_law_right_here"] ["_law_text"] (defScope s_law_tree_of) := ⟨rfl, rfl, rfl, by decide +kernel, rfl, by decide +kernel, by decide +kernel⟩
noncomputable abbrev s_law_layout_of : Stmt := top 40
theorem sc_law_layout_of : FnScope ["_law_text", "_law_layout", "_law_part", "_law_words"] ["_law_text"] (defScope s_law_layout_of) := ⟨rfl, rfl, rfl, by decide +kernel, rfl, by decide +kernel, by decide +kernel⟩
noncomputable abbrev s_law_refused : Stmt := top 41
theorem sc_law_refused : FnScope ["_law_text", "_law_is_layout", "_law_caught", "e"] ["_law_text", "_law_is_layout"] (defScope s_law_refused) := ⟨rfl, rfl, rfl, by decide +kernel, rfl, by decide +kernel, by decide +kernel⟩
noncomputable abbrev s_law_right : Stmt := top 42
theorem sc_law_right : FnScope ["_law_text", "_law_due"] ["_law_text"] (defScope s_law_right) := ⟨rfl, rfl, rfl, by decide +kernel, rfl, by decide +kernel, by decide +kernel⟩
noncomputable abbrev s_law : Stmt := top 43
theorem sc_law : FnScope ["_law_script", "_law_k", "_law_pen_here", "_law_many", "_law_text", "_law_turn", "_law_thing", "_law_great"] ["_law_script"] (defScope s_law) := ⟨rfl, rfl, rfl, by decide +kernel, rfl, by decide +kernel, by decide +kernel⟩
structure Tx (K : PySem.W.Frag) (mg : Str → Option Value) : Prop where
  b_ValueError : mg "ValueError" = none
  b_all : mg "all" = none
  b_bool : mg "bool" = none
  b_int : mg "int" = none
  b_isinstance : mg "isinstance" = none
  b_len : mg "len" = none
  b_list : mg "list" = none
  b_max : mg "max" = none
  b_min : mg "min" = none
  b_range : mg "range" = none
  b_set : mg "set" = none
  b_sorted : mg "sorted" = none
  b_str : mg "str" = none
  b_sum : mg "sum" = none
  b_tuple : mg "tuple" = none
  g_FIGURES : ∃ tk, mg "FIGURES" = some (.str "0123456789" tk)
  g_MOST_FIGURES : ∃ tk, mg "MOST_FIGURES" = some (.int 60 tk)
  g_MOST_KEYS : ∃ tk, mg "MOST_KEYS" = some (.int 60 tk)
  g_MOST_PAGES : ∃ tk, mg "MOST_PAGES" = some (.int 60 tk)
noncomputable def spPen (K : PySem.W.Frag) : Sp := fun vs H Q _ => ∃ (a : Addr) (k : Int) (ns : List Int), vs = [.ref a, .int k] ∧ SqL K H a (ns.map V.int) ∧ ns.length ≤ 63 ∧ 0 ≤ k ∧ k ≤ 63 ∧ ∀ p H', H p = none → Same H H' → Pen3 H' p → Q (.ref p) H'
noncomputable def spDraw : Sp := fun vs H Q _ => ∃ (p : Addr) (c : Int), vs = [.ref p, .int c] ∧ Pen3 H p ∧ 0 < c ∧ c < 10 ^ 100 ∧ ∀ r H', 0 ≤ r → r < c → Pen3 H' p → Same (rm p H) H' → Q (.int r) H'
section
variable {P : Program} {w : World} {K : PySem.W.Frag} {mg : Str → Option Value} {base : Heap}
theorem ok_draw {f : Addr} (F : Fd K mg "_law_draw" s_law_draw f) (T : Tx K mg) : Cal P w K mg base CX0 1 "_law_draw" spDraw := by
  refine F.cal sc_law_draw (fun _ _ _ _ _ _ us hl => L3.bind2 (fun _ _ => rfl) us hl) (fun vs H Q E h => ?_) (fun cdv A outer s H vs Q E hr h => ?_)
  · obtain ⟨p, c, rfl, _⟩ := h; rfl
  · obtain ⟨p, c, rfl, ⟨m, n, d, hp⟩, hc, hc2, k⟩ := h
    have hcB : CDivB m c := ⟨hc, Int.lt_trans hc2 (by decide +kernel)⟩
    refine ⟨_, (bcons (sasg (qop rAdd (qix (xIx K) (qv 0) qint (fun _ _ => rfl)) qint) (gsub (qv 0) qint xSet))
      (bcons (sif (tcmp rGt (qix (xIx K) (qv 0) qint (fun _ _ => rfl)) qint (nomark _)) (bcons (sset (i := 2) sc_law_draw.nd rfl (by first | exact Or.inl rfl | exact Or.inr rfl) (qop rMod (qix (xIx K) (qv 0) qint (fun _ _ => rfl)) (qv 1)))
        (bcons (sasg (qop rDivB (qix (xIx K) (qv 0) qint (fun _ _ => rfl)) (qv 1)) (gsub (qv 0) qint xSet))
        (bone (sret (qv 2))))) bnil)
      (bcons (sset (i := 3) sc_law_draw.nd rfl (by first | exact Or.inl rfl | exact Or.inr rfl) (qop rMod (qop rMul (qop rAdd (qop rAdd (qix (xIx K) (qv 0) qint (fun _ _ => rfl)) (qop rMul qint (qix (xIx K) (qv 0) qint (fun _ _ => rfl)))) qint) qint) qint))
      (bcons (sset (i := 3) sc_law_draw.nd rfl (by first | exact Or.inl rfl | exact Or.inr rfl) (qop rMod (qop rMul (qv 3) (qop rAdd (qop rAdd (qop rMod (qv 3) qint) (qix (xIx K) (qv 0) qint (fun _ _ => rfl))) qint)) qint))
      (bone (sret (qop rMod (qop rDivB (qop rMod (qop rMul (qv 3) (qop rAdd (qop rMod (qv 3) qint) qint)) qint) qint) (qv 1)))))))), ?_⟩
    refine ⟨_, rfl, p, _, 2, _, rfl, rfl, .inl (SqL.of hp), atI_nat (j := 2) rfl, _, rfl, p, _, 2, 2, rfl, rfl, hp, rfl, ?_⟩
    refine ⟨_, rfl, p, _, 0, _, rfl, rfl, .inl (SqL.of upd_same), atI_nat (j := 0) rfl, _, _, rfl, rfl, _, rfl, ?_⟩
    refine ite2 (fun _ => ?_) (fun _ => ?_)
    · refine ⟨_, rfl, p, _, 0, _, rfl, rfl, .inl (SqL.of upd_same), atI_nat (j := 0) rfl, _, rfl, _, _, rfl, rfl, hc, ?_⟩
      refine ⟨_, rfl, p, _, 0, _, rfl, rfl, .inl (SqL.of upd_same), atI_nat (j := 0) rfl, _, rfl, _, _, rfl, rfl, hcB, _, rfl, p, _, 0, 0, rfl, rfl, upd_same, rfl, ?_⟩
      refine ⟨_, rfl, ?_⟩
      exact k (m % c) _ (Int.emod_nonneg _ (by lia)) (Int.emod_lt_of_pos _ hc) ⟨_, _, _, upd_same⟩ (same_upd (same_upd rm_same rm_self) rm_self)
    · refine ⟨_, rfl, p, _, 1, _, rfl, rfl, .inl (SqL.of upd_same), atI_nat (j := 1) rfl, _, rfl, p, _, 2, _, rfl, rfl, .inl (SqL.of upd_same), atI_nat (j := 2) rfl, _, _, rfl, rfl, cmL (by decide), _, _, rfl, rfl, cmR (by decide), _, _, rfl, rfl, (show (0 : Int) < _ by decide), ?_⟩
      have hb : ∀ x q : Int, 0 < q → q < 2147483650 → -(2 ^ 64) < x % q ∧ x % q < 2 ^ 64 := fun x q h1 h2 => by
        have := Int.emod_nonneg x (b := q) (by lia)
        have := Int.emod_lt_of_pos x h1
        lia
      refine ⟨_, rfl, _, rfl, _, _, rfl, rfl, (show (0 : Int) < _ by decide), _, rfl, p, _, 2, _, rfl, rfl, .inl (SqL.of upd_same), atI_nat (j := 2) rfl, _, _, rfl, rfl, cmL (hb _ _ (by decide) (by decide)), _, _, rfl, rfl, (show (0 : Int) < _ by decide), ?_⟩
      refine ⟨_, rfl, _, rfl, _, _, rfl, rfl, (show (0 : Int) < _ by decide), _, _, rfl, rfl, cmL (hb _ _ (by decide) (by decide)), _, _, rfl, rfl, (show (0 : Int) < _ by decide), _, _, rfl, rfl, ⟨by decide, by decide +kernel⟩, _, rfl, _, _, rfl, rfl, hc, ?_⟩
      exact k _ _ (Int.emod_nonneg _ (by lia)) (Int.emod_lt_of_pos _ hc) ⟨_, _, _, upd_same⟩ (same_upd rm_same rm_self)
theorem ok_pen {f : Addr} (F : Fd K mg "_law_pen" s_law_pen f) (T : Tx K mg) : Cal P w K mg base CX0 1 "_law_pen" (spPen K) := by
  refine F.cal sc_law_pen (fun _ _ _ _ _ _ us hl => L3.bind2 (fun _ _ => rfl) us hl) (fun vs H Q E h => ?_) (fun cdv A outer s H vs Q E hr h => ?_)
  · obtain ⟨a, k, ns, rfl, _⟩ := h; rfl
  · obtain ⟨a, k, ns, rfl, ha, hl, h0, h1, q⟩ := h
    refine split 2 (fun σ' H' => H' = H ∧ ∃ cell, σ' = [some (.ref a), some (.int k), some (.int cell)]) ?h2 ?h1
    case h2 =>
      refine ⟨_, (bcons (sif (tcmp rGe (qv 2) (qop rPow qint qint) (nomark _)) (bone (sret (qlst (qcons (qop rSub (qv 2) (qop rPow qint qint)) (qcons (qop rMod (qv 2) qint) (qcons qint qnil)))))) bnil)
      (bone (sret (qlst (qcons qint (qcons (qop rAdd (qop rMod (qv 2) qint) (qop rMul qint (qv 1))) (qcons qint qnil))))))), ?_⟩
      rintro σ' H' ⟨rfl, cell, rfl⟩
      refine ⟨_, rfl, _, _, rfl, rfl, ⟨by decide, by decide, by decide⟩, _, _, rfl, rfl, _, rfl, ?_⟩
      refine ite2 (fun _ => ?_) (fun _ => ?_)
      · exact ⟨_, rfl, _, _, rfl, rfl, ⟨by decide, by decide, by decide⟩, _, _, rfl, rfl, _, rfl, _, _, rfl, rfl, (show (0 : Int) < _ by decide), (show 3 ≤ sizeLine by decide), fun p H' hn s1 e1 _ => q p H' hn s1 ⟨_, _, _, e1⟩⟩
      · exact ⟨_, rfl, _, _, rfl, rfl, (show (0 : Int) < _ by decide), _, rfl, _, _, rfl, rfl, cmL (by decide), (show 3 ≤ sizeLine by decide), fun p H' hn s1 e1 _ => q p H' hn s1 ⟨_, _, _, e1⟩⟩
    case h1 =>
      intro u pu hu
      refine ⟨_, (bcons (sset (i := 2) sc_law_pen.nd rfl (by first | exact Or.inl rfl | exact Or.inr rfl) (qop rAdd (qop rMul qint (qv 1)) qint))
      (bcons (sif (tcmp rLt (qv 1) (qB (fLen K) rfl T.b_len bt_len (qcons (qv 0) qnil)) (nomark _)) (bone (sset (i := 2) sc_law_pen.nd rfl (by first | exact Or.inl rfl | exact Or.inr rfl) (qix (xIx K) (qv 0) (qv 1) (fun _ _ => rfl)))) (bone (sif (tcmp rGt (qB (fLen K) rfl T.b_len bt_len (qcons (qv 0) qnil)) qint (nomark _)) (bone (sset (i := 2) sc_law_pen.nd rfl (by first | exact Or.inl rfl | exact Or.inr rfl) (qop rAdd (qix (xIx K) (qv 0) (qop rMod (qv 1) (qB (fLen K) rfl T.b_len bt_len (qcons (qv 0) qnil))) (fun _ _ => rfl)) (qop rMul qint (qv 1))))) bnil)))
      pu)), ?_⟩
      refine ⟨_, rfl, _, _, rfl, rfl, cmL (by decide), ?_⟩
      have hln : (ns.map V.int).length = ns.length := List.length_map _
      refine ⟨_, rfl, _, rfl, a, _, rfl, .inl ha, _, _, rfl, rfl, _, rfl, ?_⟩
      refine ite2 (fun hk => ?_) (fun _ => ?_)
      · have hk : k < (((ns.map V.int).length : Nat) : Int) := of_decide_eq_true hk
        obtain ⟨x, hx, _⟩ := atI_ints (ns := ns) (i := k) h0 (by rw [← hln]; exact hk)
        exact ⟨_, rfl, _, rfl, a, _, _, .int x, rfl, rfl, .inl ha, hx, hu _ _ ⟨rfl, _, rfl⟩⟩
      · refine ⟨_, rfl, a, _, rfl, .inl ha, _, _, rfl, rfl, _, rfl, ?_⟩
        refine ite2 (fun hpos => ?_) (fun _ => hu _ _ ⟨rfl, _, rfl⟩)
        have hpos : 0 < (((ns.map V.int).length : Nat) : Int) := of_decide_eq_true hpos
        obtain ⟨x, hx, _⟩ := atI_ints (ns := ns) (i := k % ((ns.map V.int).length : Int)) (Int.emod_nonneg _ (by lia)) (by rw [← hln]; exact Int.emod_lt_of_pos _ hpos)
        refine ⟨_, rfl, _, rfl, _, rfl, a, _, rfl, .inl ha, _, _, rfl, rfl, hpos, a, _, _, .int x, rfl, rfl, .inl ha, hx, _, rfl, _, _, rfl, rfl, cmL (by decide), ?_⟩
        exact hu _ _ ⟨rfl, _, rfl⟩
end
end K48
namespace K48
open PySem L2 L3 PySem.NumText
noncomputable def dg (c : Nat) : Bool := decide (48 ≤ c ∧ c ≤ 57)
noncomputable def figB (x : Str) : Bool := decide (1 ≤ x.length ∧ x.length ≤ 60) && (ls x).all dg
noncomputable def unS (x : Str) : Str := if (ls x)[0]? = some 45 then ⟨((ls x).drop 1).toArray⟩ else x
noncomputable def KeyW (x : Str) : Prop := ∃ n, Bd n ∧ x = num n
theorem dv_snoc (ds : List Nat) (d : Nat) : digitsVal (ds ++ [d]) = digitsVal ds * 10 + (d - 48) := by simp [digitsVal, List.foldl_append]
theorem rev_ind {P : List Nat → Prop} (h0 : P []) (h1 : ∀ ds d, P ds → P (ds ++ [d])) : ∀ ds, P ds := fun ds => by
  have : ∀ es : List Nat, P es.reverse := fun es => by
    induction es with
    | nil => exact h0
    | cons d es ih => rw [List.reverse_cons]; exact h1 _ _ ih
  have := this ds.reverse
  rwa [List.reverse_reverse] at this
theorem dv_lt (ds : List Nat) (h : AllDigits ds) : digitsVal ds < 10 ^ ds.length := by
  revert h
  refine rev_ind (P := fun ds => AllDigits ds → digitsVal ds < 10 ^ ds.length) (fun _ => by decide) (fun ds d ih h => ?_) ds
  have h1 := ih fun c hc => h c (List.mem_append_left _ hc)
  have h2 := h d (by simp)
  rw [dv_snoc, List.length_append, List.length_singleton, Nat.pow_succ]
  lia
theorem figs_one {d : Nat} (hd : d < 10) : figs d = [48 + d] := by
  unfold figs
  rw [Nat.toDigits_of_lt_base hd]
  show [(Nat.digitChar d).toNat] = _
  have : ∀ d, d < 10 → (Nat.digitChar d).toNat = 48 + d := by decide
  rw [this d hd]
theorem figs_step {a d : Nat} (ha : 0 < a) (hd : d < 10) : figs (10 * a + d) = figs a ++ [48 + d] := by
  have t : Nat.toDigits 10 a ++ Nat.toDigits 10 d = Nat.toDigits 10 (10 * a + d) := Nat.toDigits_append_toDigits (by decide) ha hd
  have e := figs_one hd
  unfold figs at e ⊢
  rw [← t, List.map_append, e]
theorem figs_back (ds : List Nat) (h : AllDigits ds) (hne : ds ≠ []) (hh : ds = [48] ∨ ds[0]? ≠ some 48) : figs (digitsVal ds) = ds := by
  revert h hne hh
  refine rev_ind (P := fun ds => AllDigits ds → ds ≠ [] → (ds = [48] ∨ ds[0]? ≠ some 48) → figs (digitsVal ds) = ds) (fun _ z => absurd rfl z) (fun es d ih h _ hh => ?_) ds
  have hd := h d (by simp)
  rw [dv_snoc]
  by_cases he : es = []
  · subst he
    rw [show digitsVal [] = 0 from rfl, Nat.zero_mul, Nat.zero_add, figs_one (by lia)]
    show [48 + (d - 48)] = [d]
    rw [show 48 + (d - 48) = d by lia]
  · have h0 : es[0]? ≠ some 48 := by
      rcases hh with z | z
      · exfalso
        have hl := congrArg List.length z
        rw [List.length_append] at hl
        have hp := List.length_pos_iff.mpr he
        simp only [List.length_cons, List.length_nil] at hl
        lia
      · rwa [List.getElem?_append_left (List.length_pos_iff.mpr he)] at z
    have e := ih (fun c hc => h c (List.mem_append_left _ hc)) he (.inr h0)
    have hp : 0 < digitsVal es := Nat.pos_of_ne_zero fun z => by
      rw [z, figs_one (by decide)] at e
      rw [← e] at h0
      exact h0 rfl
    rw [Nat.mul_comm, figs_step hp (by lia), e, show 48 + (d - 48) = d by lia]
theorem figs_head (m : Nat) : figs m = [48] ∨ (figs m)[0]? ≠ some 48 := by
  induction m using Nat.strongRecOn with
  | _ m ih =>
    by_cases c : m < 10
    · rw [figs_one c]
      by_cases z : m = 0
      · left; rw [z]
      · right
        show some (48 + m) ≠ some 48
        intro y
        have := Option.some.inj y
        lia
    · right
      have hq : 0 < m / 10 := by lia
      have e : 10 * (m / 10) + m % 10 = m := by lia
      have h1 := figs_step hq (Nat.mod_lt m (by decide))
      rw [e] at h1
      rw [h1, List.getElem?_append_left (List.length_pos_iff.mpr (figs_ne _))]
      rcases ih (m / 10) (by lia) with z | z
      · have := figs_val (m / 10)
        rw [z] at this
        have : m / 10 = 0 := this.symm
        lia
      · exact z
theorem unS_num (n : Int) : unS (num n) = bare n := by
  unfold unS bare
  rcases num_cases n with ⟨m, rfl, e⟩ | ⟨m, rfl, e⟩
  · rw [if_neg, if_neg (by lia)]
    rw [e]
    intro z
    have := figs_dig m 45 (List.mem_of_getElem? z)
    lia
  · rw [if_pos (by rw [e]; rfl), if_pos (by lia)]
theorem key_fig {x : Str} (h : KeyW x) : figB (unS x) = true := by
  obtain ⟨n, hb, rfl⟩ := h
  rw [unS_num]
  have := bare_len hb
  unfold figB
  rw [decide_eq_true this, Bool.true_and, List.all_eq_true]
  intro c hc
  rw [bare_ls] at hc
  exact decide_eq_true (figs_dig _ c hc)
theorem figB_dig {x : Str} (h : figB x = true) : (1 ≤ x.length ∧ x.length ≤ 60) ∧ AllDigits (ls x) := by
  unfold figB at h
  rw [Bool.and_eq_true] at h
  exact ⟨of_decide_eq_true h.1, fun c hc => of_decide_eq_true (List.all_eq_true.mp h.2 c hc)⟩
theorem key_val {x : Str} (hf : figB (unS x) = true) : ∃ v : Int, PySem.intText? x = some v ∧ Bd v ∧ (KeyW x ↔ num v = x) ∧ (KeyW x ↔ (x = ⟨#[48]⟩ ∨ (ls (unS x))[0]? ≠ some 48)) := by
  obtain ⟨⟨l1, l2⟩, hd⟩ := figB_dig hf
  have key : ∀ v : Int, PySem.intText? x = some v → Bd v → (KeyW x ↔ num v = x) := fun v e hb => ⟨fun ⟨n, hn, z⟩ => by
    rw [z, num_reads hn] at e
    cases e
    exact z.symm, fun z => ⟨v, hb, z.symm⟩⟩
  by_cases c : (ls x)[0]? = some 45
  · have hu : ls (unS x) = (ls x).drop 1 := by unfold unS; rw [if_pos c]
    have hx : ls x = 45 :: ls (unS x) := by
      rw [hu]
      cases e : ls x with
      | nil => rw [e] at c; cases c
      | cons a r =>
        rw [e] at c
        cases c
        rfl
    rw [ls_len] at l1 l2
    have hne : ls (unS x) ≠ [] := List.length_pos_iff.mp l1
    have hv := intText_neg (x := x) hx hd hne (by rw [ls_len, hx, List.length_cons]; lia)
    have hlt := Nat.lt_of_lt_of_le (dv_lt _ hd) (Nat.pow_le_pow_right (by decide) l2)
    have hb : Bd (-((digitsVal (ls (unS x)) : Nat) : Int)) := by
      unfold Bd; rw [Int.natAbs_neg]; exact hlt
    refine ⟨_, hv, hb, key _ hv hb, (key _ hv hb).trans ⟨fun z => .inr ?_, fun z => ?_⟩⟩
    · intro y
      rcases num_cases (-((digitsVal (ls (unS x)) : Nat) : Int)) with ⟨m, e, e2⟩ | ⟨m, e, e2⟩
      · rw [z] at e2
        rw [e2] at c
        have := figs_dig m 45 (List.mem_of_getElem? c)
        lia
      · rw [z, hx] at e2
        have e3 := (List.cons.inj e2).2
        rw [e3] at y
        rcases figs_head (m + 1) with h | h
        · have := figs_val (m + 1)
          rw [h] at this
          have : m + 1 = 0 := this.symm
          lia
        · exact h y
    · rcases z with z | z
      · rw [z] at c; cases c
      · have hbk := figs_back _ hd hne (.inr z)
        cases hm : digitsVal (ls (unS x)) with
        | zero =>
          rw [hm, figs_one (by decide)] at hbk
          rw [← hbk] at z
          exact absurd rfl z
        | succ m =>
          refine ls_ext ?_
          rw [num_neg, ← hm, hbk, hx]
  · have hu : unS x = x := by unfold unS; rw [if_neg c]
    rw [hu] at hd l1 l2 ⊢
    rw [ls_len] at l1 l2
    have hne : ls x ≠ [] := List.length_pos_iff.mp l1
    have hv := intText_digits (x := x) hd hne (by rw [ls_len]; lia)
    have hlt := Nat.lt_of_lt_of_le (dv_lt _ hd) (Nat.pow_le_pow_right (by decide) l2)
    have hb : Bd ((digitsVal (ls x) : Nat) : Int) := hlt
    refine ⟨_, hv, hb, key _ hv hb, (key _ hv hb).trans ⟨fun z => ?_, fun z => ?_⟩⟩
    · have e := num_nat (digitsVal (ls x))
      rw [z] at e
      rcases figs_head (digitsVal (ls x)) with h | h
      · left
        refine ls_ext ?_
        rw [e, h]
      · right
        rw [e]; exact h
    · refine ls_ext ?_
      rw [num_nat]
      refine figs_back _ hd hne ?_
      rcases z with z | z
      · left; rw [z]
      · exact .inr z
end K48
namespace K48
open PySem L2 L3 PySem.NumText
noncomputable def T48 (x : Str) : Prop := x.length ≤ 100000 ∧ ∀ c ∈ ls x, c < 128
theorem T48.un {x : Str} (h : T48 x) : T48 (unS x) := by
  unfold unS
  split
  · refine ⟨?_, fun c hc => h.2 c ?_⟩
    · rw [ls_len]
      have := h.1
      rw [ls_len] at this
      show ((ls x).drop 1).length ≤ _
      rw [List.length_drop]; lia
    · exact List.mem_of_mem_drop hc
  · exact h
theorem unS_cut {x : Str} (h : (ls x)[0]? = some 45) : PySem.StrLaws.sliceText x (some 1) none = unS x := by
  have hl : (1 : Int) ≤ ((ls x).length : Int) := by
    have := (List.getElem?_eq_some_iff.mp h).1
    lia
  rw [PySem.StrLaws.sliceText_from ⟨by decide, hl⟩]
  unfold unS
  rw [if_pos h]
  refine ls_ext ?_
  show (((ls x).drop 1).take _).toArray.toList = ((ls x).drop 1).toArray.toList
  rw [List.take_of_length_le]
  simp
theorem fig_mem (c : Nat) : (c = 48 ∨ c = 49 ∨ c = 50 ∨ c = 51 ∨ c = 52 ∨ c = 53 ∨ c = 54 ∨ c = 55 ∨ c = 56 ∨ c = 57) ↔ (48 ≤ c ∧ c ≤ 57) := by
  constructor
  · rintro (rfl | rfl | rfl | rfl | rfl | rfl | rfl | rfl | rfl | rfl) <;> decide
  · rintro ⟨h1, h2⟩
    have : ∀ c, c < 58 → 48 ≤ c → (c = 48 ∨ c = 49 ∨ c = 50 ∨ c = 51 ∨ c = 52 ∨ c = 53 ∨ c = 54 ∨ c = 55 ∨ c = 56 ∨ c = 57) := by decide
    exact this c (Nat.lt_succ_of_le h2) h1
theorem in_fig (c : Nat) : (!(Builtin.Str.occurrences figures ⟨#[c]⟩ 0 figures.length 1).isEmpty) = dg c := by
  rw [PySem.StrLaws.found_one]
  have e : figures.cps.toList = [48, 49, 50, 51, 52, 53, 54, 55, 56, 57] := by decide
  rw [e]
  unfold dg
  refine decide_eq_decide.mpr ?_
  simp only [List.mem_cons, List.not_mem_nil, or_false]
  exact fig_mem c
noncomputable def spFigE : Sp := fun vs H Q _ => ∃ x : Str, vs = [.str x] ∧ T48 x ∧ ∀ H', Same H H' → Q (.bl (figB x)) H'
noncomputable def spNumE (cX : Addr) : Sp := fun vs H Q E => ∃ x : Str, vs = [.str x] ∧ T48 x ∧ (∀ n, Bd n → x = num n → ∀ H', Same H H' → Q (.int n) H') ∧ (¬ KeyW x → ∀ H', Same H H' → E (.ref cX) none H')
section
variable {P : Program} {w : World} {K : PySem.W.Frag} {mg : Str → Option Value} {base : Heap}
theorem ok_fig {f : Addr} (F : Fd K mg "has_figures_alone" s_has_figures_alone f) (T : Tx K mg) : Cal P w K mg base CX0 1 "has_figures_alone" spFigE := by
  refine F.cal sc_has_figures_alone (fun _ _ _ _ _ _ us hl => L3.bind1 (fun _ => rfl) us hl) (fun vs H Q E h => ?_) (fun cdv A outer s H vs Q E hr h => ?_)
  · obtain ⟨x, rfl, _⟩ := h; rfl
  · obtain ⟨x, rfl, ⟨hl, ha⟩, q⟩ := h
    refine ⟨_, (bone (sret (qand K (qchain rLe rLe qint (qB fLenS rfl T.b_len bt_len (qcons (qv 0) qnil)) (qglobI rfl T.g_MOST_FIGURES)) (qone (qB (fAll K) rfl T.b_all bt_all (qcons (qcomp (sc := defScope s_has_figures_alone) (NX := ["word"]) ["sign"] [none] rfl (istr (qv 0)) (fun _ _ _ => (gname (i := 0) (show (["sign"] : List Str).Nodup by decide +kernel) rfl (by first | exact Or.inl rfl | exact Or.inr rfl))) (fun _ _ _ => csnil) (fun _ _ _ => (qcmp rInS (qv 0) (qglobS rfl T.g_FIGURES) (by with_unfolding_all rfl))) rfl rfl (by decide +kernel)) qnil)))))), ?_⟩
    have hsz : x.cps.size = x.length := rfl
    refine ⟨_, rfl, x, rfl, sizeBig' (by lia), _, _, rfl, rfl, _, rfl, ?_⟩
    by_cases h1 : 1 ≤ x.length
    · rw [decide_eq_true (show (1 : Int) ≤ (x.length : Int) by lia)]
      refine iteT ?_
      refine ⟨_, _, rfl, rfl, _, rfl, ?_⟩
      by_cases h2 : x.length ≤ 60
      · rw [decide_eq_true (show (x.length : Int) ≤ (60 : Int) by lia)]
        refine iteT ?_
        refine ⟨_, rfl, x, rfl, ascii_of ha, fun ac hac => ?_⟩
        refine comp_str (fun i ys σ G => ∃ z, σ = [z] ∧ Same H G ∧ G ac = some (.lst ys) ∧ ys = (((ls x).take i).map dg).map V.bl) ⟨none, rfl, same_new hac, upd_same, rfl⟩ ?_ ?_
        · rintro i ys c σ G hc hi ⟨z, rfl, sG, aG, rfl⟩
          have hcm : (ls x)[i]? = some c := by rw [← hc]; simp
          refine ⟨_, rfl, _, _, rfl, rfl, ?_⟩
          rw [show (("0123456789" : Str)) = figures from rfl, in_fig]
          refine cpost aG (sizeBig (by simp; lia)) hi ?_
          exact ⟨_, rfl, same_upd sG hac, upd_same, by rw [List.take_add_one, hcm, List.map_append, List.map_append]; rfl⟩
        · rintro ys σ G ⟨z, rfl, sG, aG, rfl⟩
          refine ⟨ac, _, rfl, SqL.of aG, ?_⟩
          have e : ((((ls x).take x.cps.size).map dg).all id) = figB x := by
            rw [List.take_of_length_le (by rw [← ls_len, hsz]; exact Nat.le_refl _), List.all_map]
            unfold figB
            rw [decide_eq_true (show 1 ≤ x.length ∧ x.length ≤ 60 from ⟨h1, h2⟩), Bool.true_and]
            rfl
          show Q (.bl _) G
          have := q G sG
          rw [← e] at this
          exact this
      · rw [decide_eq_false (show ¬ (x.length : Int) ≤ (60 : Int) by lia)]
        refine iteF ?_
        have := q H (Same.refl _)
        unfold figB at this
        rw [decide_eq_false (show ¬ (1 ≤ x.length ∧ x.length ≤ 60) by lia), Bool.false_and] at this
        show Q (.bl (decide ((x.length : Int) ≤ 60))) H
        rw [decide_eq_false (show ¬ (x.length : Int) ≤ (60 : Int) by lia)]
        exact this
    · rw [decide_eq_false (show ¬ (1 : Int) ≤ (x.length : Int) by lia)]
      refine iteF ?_
      refine ⟨_, rfl, ?_⟩
      refine iteF ?_
      have := q H (Same.refl _)
      unfold figB at this
      rw [decide_eq_false (show ¬ (1 ≤ x.length ∧ x.length ≤ 60) by lia), Bool.false_and] at this
      exact this
theorem ok_num {f cX : Addr} (F : Fd K mg "read_number" s_read_number f) (T : Tx K mg) (R_NoText : ErrK K mg "NoText" cX) (C_has_figures_alone : Cal P w K mg base CX0 1 "has_figures_alone" spFigE) : Cal P w K mg base (CXE P w) 2 "read_number" (spNumE cX) := by
  refine F.calE sc_read_number (fun _ _ _ _ _ _ us hl => L3.bind1 (fun _ => rfl) us hl) (fun vs H Q E h => ?_) (fun cdv A outer s H vs Q E hr h => ?_)
  · obtain ⟨x, rfl, _⟩ := h; rfl
  · obtain ⟨x, rfl, ht, q, qE⟩ := h
    refine ⟨_, (bcons (snox (sset (i := 1) sc_read_number.nd rfl (by first | exact Or.inl rfl | exact Or.inr rfl) (qif (ttru K (qBm K PySem.F.plainAttrs_str PySem.F.slot_str_startswith PySem.F.type_str_startswith mStarts (qv 0) (qcons qstr qnil)) (fun _ => rfl)) (qslice xSlS (qv 0) (osome qint) onone) (qv 0))))
      (bcons (sif (QW.tst (wor (tnot (ttru K (qF C_has_figures_alone (hr.mono (by lia)) pass0 rfl (qcons (qv 1) qnil)) (fun _ => rfl))) (wor1 (tcmp (rNeq hr) (qTy fStr rfl T.b_str bt_str (qcons (qTy fIntT rfl T.b_int bt_int (qcons (qv 0) qnil)) qnil)) (qv 0) (nomark _))))) (bone (sraise R_NoText rfl (qcons qstr qnil))) bnil)
      (bone (snox (sret (qTy fIntT rfl T.b_int bt_int (qcons (qv 0) qnil))))))), ?_⟩
    have hl := ht.1
    have hul := ht.un.1
    apply join (fun σ' G => σ' = [some (.str x), some (.str (unS x))] ∧ G = H)
    case h2 =>
      intro hj
      refine ⟨_, rfl, rfl, x, _, rfl, rfl, _, rfl, ?_⟩
      rw [minus_is, starts_minus]
      refine ite2 (fun h => ?_) (fun h => ?_)
      · have h : (ls x)[0]? = some 45 := of_decide_eq_true h
        refine ⟨_, rfl, _, rfl, x, rfl, ?_⟩
        rw [unS_cut h]
        exact ⟨sizeBig' (by lia), hj _ _ ⟨rfl, rfl⟩⟩
      · have h : ¬ (ls x)[0]? = some 45 := fun z => h (decide_eq_true z)
        refine ⟨_, rfl, ?_⟩
        have e : unS x = x := by unfold unS; rw [if_neg h]
        exact hj _ _ ⟨by rw [e]; rfl, rfl⟩
    rintro σ' G ⟨rfl, rfl⟩
    refine ⟨_, rfl, unS x, rfl, ht.un, fun G1 s1 => ?_⟩
    refine ⟨_, rfl, ?_⟩
    by_cases hf : figB (unS x) = true
    · rw [hf]
      refine iteF ?_
      obtain ⟨v, hv, hb, hk, _⟩ := key_val hf
      have hxl : x.length ≤ 61 := by
        have h1 := (figB_dig hf).1.2
        rw [ls_len] at h1 ⊢
        unfold unS at h1
        split at h1
        · rw [show ls (⟨((ls x).drop 1).toArray⟩ : Str) = (ls x).drop 1 from rfl, List.length_drop] at h1; lia
        · lia
      refine ⟨_, rfl, x, v, rfl, hv, by lia, v, rfl, num_log hb, _, rfl, ?_⟩
      refine ⟨_, rfl, ?_⟩
      by_cases hkw : KeyW x
      · rw [show decide ((Str.ofString (toString v)) = x) = true from decide_eq_true (hk.mp hkw)]
        refine iteF ?_
        exact ⟨_, rfl, x, v, rfl, hv, by lia, q v hb (hk.mp hkw).symm G1 s1⟩
      · rw [show decide ((Str.ofString (toString v)) = x) = false from decide_eq_false (fun z => hkw (hk.mpr z))]
        refine iteT ?_
        exact ⟨(show 1 ≤ sizeLine by decide), qE hkw G1 s1⟩
    · have hf' : figB (unS x) = false := by simpa using hf
      rw [hf']
      refine iteT ?_
      refine iteT ?_
      exact ⟨(show 1 ≤ sizeLine by decide), qE (fun z => hf (key_fig z)) G1 s1⟩
end
end K48
namespace K48
open PySem L2 L3 PySem.NumText
noncomputable def showL : Tr → List Nat
  | .nil => [46]
  | .node l k r => 40 :: (showL l ++ 32 :: (ls (num k) ++ 32 :: (showL r ++ [41])))
noncomputable def shT (t : Tr) : Str := ⟨(showL t).toArray⟩
theorem sh_ls (t : Tr) : ls (shT t) = showL t := by unfold shT; simp
noncomputable def BdT (t : Tr) : Prop := ∀ k ∈ t.keys, Bd k
theorem BdT.kids {l r : Tr} {k : Int} (h : BdT (.node l k r)) : BdT l ∧ Bd k ∧ BdT r :=
  ⟨fun x hx => h x (by simp [Tr.keys, hx]), h k (by simp [Tr.keys]), fun x hx => h x (by simp [Tr.keys, hx])⟩
theorem show_len : ∀ (t : Tr), BdT t → 1 ≤ (showL t).length ∧ (showL t).length ≤ 66 * t.size + 1
  | .nil, _ => ⟨Nat.le_refl _, Nat.le_refl _⟩
  | .node l k r, h => by
    obtain ⟨h1, h2, h3⟩ := h.kids
    have a := show_len l h1
    have b := show_len r h3
    have c := num_len h2
    rw [ls_len] at c
    simp only [showL, List.length_cons, List.length_append, List.length_nil, Tr.size]
    lia
theorem sh_len {t : Tr} (h : BdT t) (hz : t.size ≤ 60) : 1 ≤ (shT t).length ∧ (shT t).length ≤ 3961 := by
  have := show_len t h
  rw [ls_len, sh_ls]; lia
theorem show_count : ∀ t : Tr, (showL t).count 40 = t.size
  | .nil => rfl
  | .node l k r => by
    have hn : (ls (num k)).count 40 = 0 := List.count_eq_zero.mpr fun z => by have := num_signs k 40 z; lia
    rw [showL, List.count_cons_self, List.count_append, List.count_cons_of_ne (by decide), List.count_append, List.count_cons_of_ne (by decide), List.count_append, show_count l, show_count r, hn, Tr.size]
    show _ + (0 + (r.size + 0)) + 1 = _
    lia
theorem c_op : ("(" : Str) = ⟨#[40]⟩ := by decide
theorem c_cl : (")" : Str) = ⟨#[41]⟩ := by decide
theorem c_sp : (" " : Str) = ⟨#[32]⟩ := by decide
theorem c_dot : ("." : Str) = ⟨#[46]⟩ := by decide
theorem ls_one (c : Nat) : ls ⟨#[c]⟩ = [c] := rfl
theorem sh_node (l : Tr) (k : Int) (r : Tr) : Str.empty ++ ⟨#[40]⟩ ++ shT l ++ ⟨#[32]⟩ ++ num k ++ ⟨#[32]⟩ ++ shT r ++ ⟨#[41]⟩ = shT (.node l k r) := by
  refine ls_ext ?_
  simp only [ls_app, ls_one, sh_ls, showL]
  show [] ++ _ ++ _ ++ _ ++ _ ++ _ ++ _ ++ _ = _
  simp
theorem drop_get {l : List Nat} {p c : Nat} {r : List Nat} (h : l.drop p = c :: r) : l[p]? = some c := by
  have := List.getElem?_drop (xs := l) (i := p) (j := 0)
  rw [h] at this
  simpa using this.symm
theorem drop_next {l : List Nat} {p c : Nat} {r : List Nat} (h : l.drop p = c :: r) : l.drop (p + 1) = r := by
  rw [← List.drop_drop, h]; rfl
theorem drop_app {l : List Nat} {p : Nat} {a r : List Nat} (h : l.drop p = a ++ r) : l.drop (p + a.length) = r := by
  rw [← List.drop_drop, h, List.drop_left]
theorem slice_one {x : Str} {p c : Nat} (h : (ls x)[p]? = some c) : PySem.StrLaws.sliceText x (some (p : Int)) (some ((p : Int) + 1)) = ⟨#[c]⟩ := by
  have hp := (List.getElem?_eq_some_iff.mp h).1
  rw [PySem.StrLaws.sliceText_plain ⟨by lia, by lia, by show (p : Int) + 1 ≤ ((ls x).length : Int); lia⟩]
  refine ls_ext ?_
  show (((ls x).drop (p : Int).toNat).take _).toArray.toList = [c]
  rw [show ((p : Int)).toNat = p by lia, show ((p : Int) + 1 - (p : Int)).toNat = 1 by lia, List.drop_eq_getElem_cons hp]
  have : (ls x)[p] = c := by
    have := List.getElem?_eq_getElem hp
    rw [h] at this
    exact (Option.some.inj this).symm
  rw [this]; simp
theorem slice_rest {x : Str} {p : Nat} (h : p ≤ (ls x).length) : ls (PySem.StrLaws.sliceText x (some (p : Int)) none) = (ls x).drop p := by
  rw [PySem.StrLaws.sliceText_from ⟨by lia, by show (p : Int) ≤ ((ls x).length : Int); lia⟩]
  show (((ls x).drop (p : Int).toNat).take (((ls x).length : Int) - (p : Int)).toNat).toArray.toList = _
  rw [show ((p : Int)).toNat = p by lia, List.take_of_length_le (by rw [List.length_drop]; lia)]
noncomputable def ov : Option Int → V
  | none => .non
  | some i => .int i
noncomputable def spKof (n : Nat) : Sp := fun vs H Q _ => ∃ (v : V) (t : Tr), vs = [v] ∧ Rep H v (Tr.d t) ∧ t.ht < n ∧ t.size ≤ 1000 ∧ ∀ r H', H r = none → Same H H' → H' r = some (.lst (t.keys.map V.int)) → Q (.ref r) H'
noncomputable def spWhole : Sp := fun vs H Q _ => ∃ i : Int, vs = [.int i] ∧ Q (.bl true) H
noncomputable def spKnot : Sp := fun vs H Q _ => ∃ (v : V) (l r : Tr) (k : Int), vs = [v] ∧ Rep H v (Tr.node l k r).d ∧ Q (.bl true) H
noncomputable def spLies (n : Nat) : Sp := fun vs H Q _ => ∃ (v : V) (t : Tr) (lo hi : Option Int), vs = [v, ov lo, ov hi] ∧ Rep H v t.d ∧ t.ht < n ∧ ∀ b : Bool, (b = true ↔ t.ord lo hi) → Q (.bl b) H
noncomputable def spIsT : Sp := fun vs H Q _ => ∃ (v : V) (t : Tr), vs = [v] ∧ Rep H v t.d ∧ t.size ≤ 60 ∧ ∀ (b : Bool) H', Same H H' → (b = true ↔ t.ord none none) → Q (.bl b) H'
section
variable {P : Program} {w : World} {K : PySem.W.Frag} {mg : Str → Option Value} {base : Heap}
theorem ok_kof {f : Addr} (F : Fd K mg "keys_of" s_keys_of f) (T : Tx K mg) : ∀ n, Cal P w K mg base CX0 n "keys_of" (spKof n) := by
  intro n
  induction n with
  | zero => exact (F.none (ps := ["tree"]) (fun _ _ _ _ _ _ us hl => L3.bind1 (fun _ => rfl) us hl) fun vs H Q E hh => by obtain ⟨v, t, _, _, h2, _⟩ := hh; lia)
  | succ n C_keys_of =>
    refine F.cal sc_keys_of (fun _ _ _ _ _ _ us hl => L3.bind1 (fun _ => rfl) us hl) (fun vs H Q E h => ?_) (fun cdv A outer s H vs Q E hr h => ?_)
    · obtain ⟨v, t, rfl, _⟩ := h; rfl
    · obtain ⟨v, t, rfl, hv, ht, hz, q⟩ := h
      refine ⟨_, (bcons (sif (tcmp rIs (qv 0) qnon (nomark _)) (bone (sret (qlst qnil))) bnil)
      (bone (sret (qop rAdd (qop rAdd (qF C_keys_of (hr.mono (by lia)) pass0 rfl (qcons (qix (xIx K) (qv 0) qint (fun _ _ => rfl)) qnil)) (qlst (qcons (qix (xIx K) (qv 0) qint (fun _ _ => rfl)) qnil))) (qF C_keys_of (hr.mono (by lia)) pass0 rfl (qcons (qix (xIx K) (qv 0) qint (fun _ _ => rfl)) qnil)))))), ?_⟩
      cases t with
      | nil =>
        cases rep_nil hv
        exact ⟨_, rfl, rfl, _, rfl, (show 0 ≤ sizeLine by decide), fun r H1 n1 s1 e1 _ => q r H1 n1 s1 e1⟩
      | node l x r =>
        obtain ⟨a, vl, vr, rfl, ea, hl, hr'⟩ := rep_node hv
        simp only [Tr.ht] at ht
        simp only [Tr.size] at hz
        refine ⟨_, rfl, rfl, _, rfl, ?_⟩
        refine ⟨_, rfl, a, _, 0, _, rfl, rfl, .inr (SqT.of ea), atI_nat (j := 0) rfl, vl, l, rfl, hl, by lia, by lia, fun r1 H1 n1 s1 e1 => ?_⟩
        refine ⟨_, rfl, a, _, 1, _, rfl, rfl, .inr (SqT.of (s1 _ _ ea)), atI_nat (j := 1) rfl, (show 1 ≤ sizeLine by decide), fun r2 H2 n2 s2 e2 _ => ?_⟩
        have kl := Tr.keys_length l
        have kr := Tr.keys_length r
        refine ⟨_, _, s2 _ _ e1, e2, sizeBig' (by simp; lia), fun r3 H3 n3 s3 e3 _ => ?_⟩
        have s13 := (s1.trans s2).trans s3
        refine ⟨_, rfl, a, _, 2, _, rfl, rfl, .inr (SqT.of (s13 _ _ ea)), atI_nat (j := 2) rfl, vr, r, rfl, hr'.mono s13, by lia, by lia, fun r4 H4 n4 s4 e4 => ?_⟩
        refine ⟨_, _, s4 _ _ e3, e4, sizeBig' (by simp; lia), fun r5 H5 n5 s5 e5 _ => ?_⟩
        refine q r5 H5 ((s13.trans s4).free n5) ((s13.trans s4).trans s5) ?_
        rw [e5]; simp [Tr.keys]
theorem ok_whole {f : Addr} (F : Fd K mg "is_whole" s_is_whole f) (T : Tx K mg) : Cal P w K mg base CX0 1 "is_whole" spWhole := by
  refine F.cal sc_is_whole (fun _ _ _ _ _ _ us hl => L3.bind1 (fun _ => rfl) us hl) (fun vs H Q E h => ?_) (fun cdv A outer s H vs Q E hr h => ?_)
  · obtain ⟨i, rfl, _⟩ := h; rfl
  · obtain ⟨i, rfl, q⟩ := h
    refine ⟨_, (bone (sret (qand K (qB (fIsi K) rfl T.b_isinstance bt_isinstance (qcons (qv 0) (qcons (qty rfl T.b_int bt_int) qnil))) (qone (qnot K (qB (fIsi K) rfl T.b_isinstance bt_isinstance (qcons (qv 0) (qcons (qty rfl T.b_bool bt_bool) qnil)))))))), ?_⟩
    refine ⟨_, rfl, V.int i, _, _, _, rfl, (Rep.int i : Rep H _ _).ty, kit_int K _, _, rfl, ?_⟩
    refine iteT ?_
    exact ⟨_, rfl, V.int i, _, _, _, rfl, (Rep.int i : Rep H _ _).ty, kit_bool K _, _, rfl, q⟩
theorem ok_knot {f : Addr} (F : Fd K mg "is_knot" s_is_knot f) (T : Tx K mg) (C_is_whole : Cal P w K mg base CX0 1 "is_whole" spWhole) : Cal P w K mg base CX0 2 "is_knot" spKnot := by
  refine F.cal sc_is_knot (fun _ _ _ _ _ _ us hl => L3.bind1 (fun _ => rfl) us hl) (fun vs H Q E h => ?_) (fun cdv A outer s H vs Q E hr h => ?_)
  · obtain ⟨v, l, r, k, rfl, _⟩ := h; rfl
  · obtain ⟨v, l, r, k, rfl, hv, q⟩ := h
    refine ⟨_, (bone (sret (qand K (qB (fIsi K) rfl T.b_isinstance bt_isinstance (qcons (qv 0) (qcons (qty rfl T.b_tuple bt_tuple) qnil))) (qand K (qcmp (rEqq hr) (qB (fLen K) rfl T.b_len bt_len (qcons (qv 0) qnil)) qint (nomark _)) (qone (qF C_is_whole (hr.mono (by lia)) pass0 rfl (qcons (qix (xIx K) (qv 0) qint (fun _ _ => rfl)) qnil))))))), ?_⟩
    obtain ⟨a, vl, vr, rfl, ea, _, _⟩ := rep_node hv
    refine ⟨_, rfl, V.ref a, _, _, _, rfl, hv.ty, kit_tuple K _, _, rfl, ?_⟩
    refine iteT ?_
    refine ⟨_, rfl, a, _, rfl, .inr (SqT.of ea), _, rfl, ?_⟩
    refine iteT ?_
    exact ⟨_, rfl, a, _, 1, _, rfl, rfl, .inr (SqT.of ea), atI_nat (j := 1) rfl, k, rfl, q⟩
theorem ok_lies {f : Addr} (F : Fd K mg "lies_between" s_lies_between f) (T : Tx K mg) (C_is_knot : Cal P w K mg base CX0 2 "is_knot" spKnot) : ∀ n, Cal P w K mg base CX0 (n + 2) "lies_between" (spLies n) := by
  intro n
  induction n with
  | zero => exact (F.none (ps := ["thing", "low", "high"]) (fun _ _ _ _ _ _ us hl => L3.bind3 (fun _ _ _ => rfl) us hl) fun vs H Q E hh => by obtain ⟨v, t, lo, hi, _, _, h2, _⟩ := hh; lia).mono (by decide)
  | succ n ih =>
    have C_lies_between := ih
    rw [Nat.add_right_comm]
    refine F.cal sc_lies_between (fun _ _ _ _ _ _ us hl => L3.bind3 (fun _ _ _ => rfl) us hl) (fun vs H Q E h => ?_) (fun cdv A outer s H vs Q E hr h => ?_)
    · obtain ⟨v, t, lo, hi, rfl, _⟩ := h; rfl
    · obtain ⟨v, t, lo, hi, rfl, hv, ht, q⟩ := h
      refine ⟨_, (bcons (sif (tcmp rIs (qv 0) qnon (nomark _)) (bone (sret qbl)) bnil)
      (bcons (sif (tnot (ttru K (qF C_is_knot (hr.mono (by lia)) pass0 rfl (qcons (qv 0) qnil)) (fun _ => rfl))) (bone (sret qbl)) bnil)
      (bcons (sset (i := 3) sc_lies_between.nd rfl (by first | exact Or.inl rfl | exact Or.inr rfl) (qix (xIx K) (qv 0) qint (fun _ _ => rfl)))
      (bcons (sif (QW.tst (wand (tcmp rIsNot (qv 1) qnon (nomark _)) (wand1 (tcmp rLe (qv 3) (qv 1) (nomark _))))) (bone (sret qbl)) bnil)
      (bcons (sif (QW.tst (wand (tcmp rIsNot (qv 2) qnon (nomark _)) (wand1 (tcmp rGe (qv 3) (qv 2) (nomark _))))) (bone (sret qbl)) bnil)
      (bone (sret (qand K (qF C_lies_between (hr.mono (by lia)) pass0 rfl (qcons (qix (xIx K) (qv 0) qint (fun _ _ => rfl)) (qcons (qv 1) (qcons (qv 3) qnil)))) (qone (qF C_lies_between (hr.mono (by lia)) pass0 rfl (qcons (qix (xIx K) (qv 0) qint (fun _ _ => rfl)) (qcons (qv 3) (qcons (qv 2) qnil))))))))))))), ?_⟩
      cases t with
      | nil =>
        cases rep_nil hv
        exact ⟨_, rfl, rfl, _, rfl, q true ⟨fun _ => trivial, fun _ => rfl⟩⟩
      | node l k r =>
        have qF : ¬ (Tr.node l k r).ord lo hi → Q (.bl false) H := fun h => q false ⟨(fun z => nomatch z), fun z => absurd z h⟩
        obtain ⟨a, vl, vr, rfl, ea, gl, gr⟩ := rep_node hv
        simp only [Tr.ht] at ht
        refine ⟨_, rfl, rfl, _, rfl, ?_⟩
        refine iteF ?_
        refine ⟨_, rfl, .ref a, l, r, k, rfl, hv, ?_⟩
        refine ⟨_, rfl, ?_⟩
        refine iteF ?_
        refine ⟨_, rfl, a, _, 1, _, rfl, rfl, .inr (SqT.of ea), atI_nat (j := 1) rfl, ?_⟩
        apply join (fun σ' G => σ' = [some (.ref a), some (ov lo), some (ov hi), some (.int k)] ∧ G = H ∧ ∀ b, lo = some b → b < k)
        case h2 =>
          intro hj
          cases lo with
          | none =>
            refine ⟨_, rfl, rfl, _, rfl, ?_⟩
            refine iteF ?_
            exact iteF (hj _ _ ⟨rfl, rfl, fun b z => nomatch z⟩)
          | some b =>
            refine ⟨_, rfl, rfl, _, rfl, ?_⟩
            refine iteT ?_
            refine ⟨_, rfl, _, rfl, _, _, rfl, rfl, _, rfl, ?_⟩
            by_cases hb : k ≤ b
            · rw [decide_eq_true hb]
              exact iteT (qF fun z => by have := z.1 b rfl; lia)
            · rw [decide_eq_false hb]
              exact iteF (hj _ _ ⟨rfl, rfl, fun c z => by cases z; lia⟩)
        rintro σ' G ⟨rfl, rfl, hlo⟩
        apply join (fun σ' G' => σ' = [some (.ref a), some (ov lo), some (ov hi), some (.int k)] ∧ G' = G ∧ ∀ b, hi = some b → k < b)
        case h2 =>
          intro hj
          cases hi with
          | none =>
            refine ⟨_, rfl, rfl, _, rfl, ?_⟩
            refine iteF ?_
            exact iteF (hj _ _ ⟨rfl, rfl, fun b z => nomatch z⟩)
          | some b =>
            refine ⟨_, rfl, rfl, _, rfl, ?_⟩
            refine iteT ?_
            refine ⟨_, rfl, _, rfl, _, _, rfl, rfl, _, rfl, ?_⟩
            by_cases hb : k ≥ b
            · rw [decide_eq_true hb]
              exact iteT (qF fun z => by have := z.2.1 b rfl; lia)
            · rw [decide_eq_false hb]
              exact iteF (hj _ _ ⟨rfl, rfl, fun c z => by cases z; lia⟩)
        rintro σ' G' ⟨rfl, rfl, hhi⟩
        refine ⟨_, rfl, a, _, 0, _, rfl, rfl, .inr (SqT.of ea), atI_nat (j := 0) rfl, _, rfl, _, rfl, vl, l, lo, some k, rfl, gl, by lia, fun b1 h1 => ?_⟩
        refine ⟨_, rfl, ?_⟩
        cases b1 with
        | false =>
          refine iteF ?_
          exact qF fun z => nomatch h1.mpr z.2.2.1
        | true =>
          refine iteT ?_
          exact ⟨_, rfl, a, _, 2, _, rfl, rfl, .inr (SqT.of ea), atI_nat (j := 2) rfl, _, rfl, _, rfl, vr, r, some k, hi, rfl, gr, by lia, fun b2 h2 => q b2 (h2.trans ⟨fun z => ⟨hlo, hhi, h1.mp rfl, z⟩, fun z => z.2.2.2⟩)⟩
theorem ok_ist {f : Addr} (F : Fd K mg "is_tree" s_is_tree f) (T : Tx K mg) (C_lies_between : Cal P w K mg base CX0 72 "lies_between" (spLies 70)) (C_keys_of : Cal P w K mg base CX0 80 "keys_of" (spKof 80)) : Cal P w K mg base CX0 81 "is_tree" spIsT := by
  refine F.cal sc_is_tree (fun _ _ _ _ _ _ us hl => L3.bind1 (fun _ => rfl) us hl) (fun vs H Q E h => ?_) (fun cdv A outer s H vs Q E hr h => ?_)
  · obtain ⟨v, t, rfl, _⟩ := h; rfl
  · obtain ⟨v, t, rfl, hv, hz, q⟩ := h
    have hht := Tr.ht_size t
    have hkl := Tr.keys_length t
    refine ⟨_, (bone (sret (qand K (qF C_lies_between (hr.mono (by lia)) pass0 rfl (qcons (qv 0) (qcons qnon (qcons qnon qnil)))) (qone (qcmp rLe (qB (fLen K) rfl T.b_len bt_len (qcons (qF C_keys_of (hr.mono (by lia)) pass0 rfl (qcons (qv 0) qnil)) qnil)) (qglobI rfl T.g_MOST_KEYS) (nomark _)))))), ?_⟩
    refine ⟨_, rfl, v, t, none, none, rfl, hv, by lia, fun b h1 => ?_⟩
    refine ⟨_, rfl, ?_⟩
    cases b with
    | false =>
      refine iteF ?_
      exact q false H (Same.refl _) h1
    | true =>
      refine iteT ?_
      refine ⟨_, rfl, v, t, rfl, hv, by lia, by lia, fun r1 H1 n1 s1 e1 => ?_⟩
      refine ⟨r1, _, rfl, .inl (SqL.of e1), _, _, rfl, rfl, ?_⟩
      have := q true H1 s1 h1
      show Q (.bl (decide (((t.keys.map V.int).length : Int) ≤ (60 : Int)))) H1
      rw [List.length_map, decide_eq_true (show ((t.keys.length : Nat) : Int) ≤ 60 by lia)]
      exact this
end
end K48
namespace K48
open PySem L2 L3 PySem.NumText
theorem big {n : Nat} (h : n ≤ 200000) : n ≤ sizeLine := Nat.le_trans h (by decide)
theorem one_len (c : Nat) : (⟨#[c]⟩ : Str).length = 1 := rfl
theorem num_free (n : Int) : 32 ∉ ls (num n) := fun z => by have := num_signs n 32 z; lia
theorem num_inj {m n : Int} (hm : Bd m) (hn : Bd n) (h : ls (num m) = ls (num n)) : m = n := by
  have e := ls_ext h
  have a := num_reads hm
  rw [e, num_reads hn] at a
  exact (Option.some.inj a).symm
theorem show_free : ∀ (t t' : Tr) {r r' : List Nat}, BdT t → BdT t' → showL t ++ r = showL t' ++ r' → t = t' ∧ r = r'
  | .nil, .nil, r, r', _, _, h => ⟨rfl, (List.cons.inj h).2⟩
  | .nil, .node _ _ _, r, r', _, _, h => by have := (List.cons.inj h).1; cases this
  | .node _ _ _, .nil, r, r', _, _, h => by have := (List.cons.inj h).1; cases this
  | .node l k q, .node l' k' q', r, r', hb, hb', h => by
    obtain ⟨b1, b2, b3⟩ := hb.kids
    obtain ⟨c1, c2, c3⟩ := hb'.kids
    rw [showL, showL, List.cons_append, List.cons_append] at h
    have h1 := (List.cons.inj h).2
    rw [List.append_assoc, List.append_assoc, List.cons_append, List.cons_append] at h1
    obtain ⟨rfl, h2⟩ := show_free l l' b1 c1 h1
    have h3 := (List.cons.inj h2).2
    rw [List.append_assoc, List.append_assoc, List.cons_append, List.cons_append] at h3
    obtain ⟨h4, h5⟩ := app_c (num_free k) (num_free k') h3
    obtain rfl := num_inj b2 c2 h4
    rw [List.append_assoc, List.append_assoc] at h5
    obtain ⟨rfl, h6⟩ := show_free q q' b3 c3 h5
    exact ⟨rfl, (List.cons.inj h6).2⟩
theorem slice_end {x : Str} {p : Nat} (h : (ls x).length = p) : PySem.StrLaws.sliceText x (some (p : Int)) (some ((p : Int) + 1)) = Str.empty := by
  have hx : x.length = p := by rw [ls_len]; exact h
  unfold PySem.StrLaws.sliceText
  have e : Builtin.Str.strSliceIndices (some (p : Int)) (some ((p : Int) + 1)) 1 x.length = [] := by
    rw [hx]
    have a1 : ¬ (p : Int) < 0 := by lia
    have a2 : ¬ (p : Int) + 1 < 0 := by lia
    have a3 : max (0 : Int) (min (p : Int) (p : Int)) = p := by lia
    have a4 : max (0 : Int) (min ((p : Int) + 1) (p : Int)) = p := by lia
    simp [Builtin.Str.strSliceIndices, a1, a2, a3, a4]
    simp [sliceRange]
  rw [e]
  split
  · rename_i z
    have : x.length = 0 := by simp at z; lia
    refine ls_ext ?_
    have : (ls x).length = 0 := by rw [← ls_len]; exact this
    rw [List.length_eq_zero_iff.mp this]; rfl
  · rfl
noncomputable def spBehE (cX : Addr) : Sp := fun vs H Q E => ∃ (x : Str) (p c : Nat), vs = [.str x, .int (p : Int), .str ⟨#[c]⟩] ∧ T48 x ∧ p ≤ (ls x).length ∧ ((ls x)[p]? = some c → Q (.int ((p + 1 : Nat) : Int)) H) ∧ ((ls x)[p]? ≠ some c → E (.ref cX) none H)
section
variable {P : Program} {w : World} {K : PySem.W.Frag} {mg : Str → Option Value} {base : Heap}
theorem ok_beh {f cX : Addr} (F : Fd K mg "behind" s_behind f) (T : Tx K mg) (R_NoText : ErrK K mg "NoText" cX) : Cal P w K mg base (CXE P w) 1 "behind" (spBehE cX) := by
  refine F.calE sc_behind (fun _ _ _ _ _ _ us hl => L3.bind3 (fun _ _ _ => rfl) us hl) (fun vs H Q E h => ?_) (fun cdv A outer s H vs Q E hr h => ?_)
  · obtain ⟨x, p, c, rfl, _⟩ := h; rfl
  · obtain ⟨x, p, c, rfl, ht, hp, q, qE⟩ := h
    refine ⟨_, (bcons (sif (tcmp (rNeq hr) (qslice xSlS (qv 0) (osome (qv 1)) (osome (qop rAdd (qv 1) qint))) (qv 2) (nomark _)) (bone (sraise R_NoText rfl (qcons qstr qnil))) bnil)
      (bone (snox (sret (qop rAdd (qv 1) qint))))), ?_⟩
    refine ⟨_, rfl, _, rfl, _, rfl, _, rfl, _, rfl, x, rfl, ?_⟩
    cases hc : (ls x)[p]? with
    | none =>
      have hpl : (ls x).length = p := by have := List.getElem?_eq_none_iff.mp hc; lia
      rw [slice_end hpl]
      refine ⟨by decide, _, rfl, _, rfl, ?_⟩
      rw [decide_eq_false (show ¬ (Str.empty : Str) = ⟨#[c]⟩ from fun z => by have := congrArg Str.length z; rw [one_len] at this; cases this)]
      refine iteT ?_
      exact ⟨(show 1 ≤ sizeLine by decide), qE (by rw [hc]; exact fun z => nomatch z)⟩
    | some d =>
      rw [slice_one hc]
      refine ⟨by rw [one_len]; decide, _, rfl, _, rfl, ?_⟩
      by_cases e : d = c
      · subst e
        rw [decide_eq_true rfl]
        refine iteF ?_
        exact ⟨_, rfl, q hc⟩
      · rw [decide_eq_false (show ¬ (⟨#[d]⟩ : Str) = ⟨#[c]⟩ from fun z => e (by cases z; rfl))]
        refine iteT ?_
        exact ⟨(show 1 ≤ sizeLine by decide), qE (by rw [hc]; exact fun z => e (Option.some.inj z))⟩
end
end K48
namespace K48
open PySem L2 L3 PySem.NumText
theorem get_drop {l : List Nat} {p c : Nat} (h : l[p]? = some c) : l.drop p = c :: l.drop (p + 1) := by
  obtain ⟨h1, h2⟩ := List.getElem?_eq_some_iff.mp h
  rw [List.drop_eq_getElem_cons h1, h2]
theorem part_any (y : Str) : ∃ a : List Nat, (Txt.partition y ⟨#[32]⟩).1 = ⟨a.toArray⟩ ∧ 32 ∉ a ∧ (ls y = a ∨ ∃ r, ls y = a ++ 32 :: r) := by
  by_cases h : 32 ∈ ls y
  · obtain ⟨a, r, e, hn⟩ := List.eq_append_cons_of_mem h
    exact ⟨a, part_one e hn, hn, .inr ⟨r, e⟩⟩
  · refine ⟨ls y, ?_, h, .inl rfl⟩
    have at_iff : ∀ i, PySem.StrLaws.At y ⟨#[32]⟩ y.length i ↔ (ls y)[i]? = some 32 := fun i => PySem.StrLaws.subAt_one y 32 i
    unfold Txt.partition
    rcases PySem.StrLaws.occ_head y ⟨#[32]⟩ 1 (Nat.le_refl _) with ⟨e, _⟩ | ⟨i, r', e, hA, _⟩
    · rw [e]
    · exact absurd (List.mem_of_getElem? ((at_iff i).mp hA)) h
noncomputable def spTfE (cX : Addr) (n : Nat) : Sp := fun vs H Q E => ∃ (x : Str) (p : Nat), vs = [.str x, .int (p : Int)] ∧ T48 x ∧ p ≤ (ls x).length ∧ ((ls x).drop p).count 40 < n ∧
  (∀ t rest, BdT t → (ls x).drop p = showL t ++ rest → ∀ r v H', Same H H' → H' r = some (.tup [v, .int ((p + (showL t).length : Nat) : Int)]) → Rep H' v t.d → Q (.ref r) H') ∧
  ((∀ t rest, BdT t → (ls x).drop p ≠ showL t ++ rest) → ∀ H', Same H H' → E (.ref cX) none H')
theorem parse_node {L : List Nat} {p : Nat} (h46 : L[p]? ≠ some 46) {t : Tr} {rest : List Nat} (hb : BdT t) (hd : L.drop p = showL t ++ rest) :
    ∃ l k r, t = .node l k r ∧ BdT l ∧ Bd k ∧ BdT r ∧ L[p]? = some 40 ∧ L.drop (p + 1) = showL l ++ 32 :: (ls (num k) ++ 32 :: (showL r ++ 41 :: rest)) := by
  cases t with
  | nil => exact absurd (drop_get hd) h46
  | node l k r =>
    obtain ⟨b1, b2, b3⟩ := hb.kids
    rw [showL, List.cons_append] at hd
    have d1 := drop_next hd
    refine ⟨l, k, r, rfl, b1, b2, b3, drop_get hd, ?_⟩
    rw [d1]; simp
section
variable {P : Program} {w : World} {K : PySem.W.Frag} {mg : Str → Option Value} {base : Heap}
theorem noneE {CX : CXT} {x : Str} {st : Stmt} {f : Addr} {ps : List Str} {sp : Sp} (F : Fd K mg x st f)
    (hb : ∀ (kV doc pm : Value) (an : Option Addr) (cdv ct : Value) (us : List Value), us.length = ps.length → bindArgs (PySem.W.fnOf x x (defArgs st) (defBody st) (defScope st) .none kV doc pm an cdv ct) ⟨us, []⟩ = pure (ps.zip us))
    (no : ∀ vs H Q E, sp vs H Q E → False) : Cal P w K mg base CX 0 x sp := by
  obtain ⟨⟨fd, F1⟩, F2⟩ := F
  exact ⟨f, fd, ps, ⟨fun vs H Q E h => (no _ _ _ _ h).elim, fun A outer s H args us vs Q E _ _ _ _ h => (no _ _ _ _ h).elim⟩, F2, F1.kp, F1.binds hb⟩
theorem ok_tf {f cX : Addr} (F0 : Fd K mg "tree_from" s_tree_from f) (T : Tx K mg) (C_behind : Cal P w K mg base (CXE P w) 1 "behind" (spBehE cX)) (C_read_number : Cal P w K mg base (CXE P w) 2 "read_number" (spNumE cX)) : ∀ n, Cal P w K mg base (CXE P w) (n + 2) "tree_from" (spTfE cX n) := by
  have F := F0
  intro n
  induction n with
  | zero => exact (noneE F (ps := ["text", "place"]) (fun _ _ _ _ _ _ us hl => L3.bind2 (fun _ _ => rfl) us hl) fun vs H Q E hh => by obtain ⟨x, p, _, _, _, h2, _⟩ := hh; lia).mono (by decide)
  | succ n ih =>
    have C_tree_from := ih
    rw [Nat.add_right_comm]
    refine F.calE sc_tree_from (fun _ _ _ _ _ _ us hl => L3.bind2 (fun _ _ => rfl) us hl) (fun vs H Q E h => ?_) (fun cdv A outer s H vs Q E hr h => ?_)
    · obtain ⟨x, p, rfl, _⟩ := h; rfl
    · obtain ⟨x, p, rfl, ht, hp, hcn, q, qE⟩ := h
      refine ⟨_, (bcons (snox (sif (tcmp (rEqq hr) (qslice xSlS (qv 0) (osome (qv 1)) (osome (qop rAdd (qv 1) qint))) qstr (nomark _)) (bone (sret (qtup (qcons qnon (qcons (qop rAdd (qv 1) qint) qnil))))) bnil))
      (bcons (sset (i := 2) sc_tree_from.nd rfl (by first | exact Or.inl rfl | exact Or.inr rfl) (qF C_tree_from (hr.mono (by lia)) (passE fun _ _ h => h) rfl (qcons (qv 0) (qcons (qF C_behind (hr.mono (by lia)) (passE fun _ _ h => h) rfl (qcons (qv 0) (qcons (qv 1) (qcons qstr qnil)))) qnil))))
      (bcons (sset (i := 3) sc_tree_from.nd rfl (by first | exact Or.inl rfl | exact Or.inr rfl) (qF C_behind (hr.mono (by lia)) (passE fun _ _ h => h) rfl (qcons (qv 0) (qcons (qix (xIx K) (qv 2) qint (fun _ _ => rfl)) (qcons qstr qnil)))))
      (bcons (snox (sset (i := 4) sc_tree_from.nd rfl (by first | exact Or.inl rfl | exact Or.inr rfl) (qix (xIx K) (qBm K PySem.F.plainAttrs_str PySem.F.slot_str_partition PySem.F.type_str_partition mPart (qslice xSlS (qv 0) (osome (qv 3)) onone) (qcons qstr qnil)) qint (fun _ _ => rfl))))
      (bcons (sset (i := 5) sc_tree_from.nd rfl (by first | exact Or.inl rfl | exact Or.inr rfl) (qF C_tree_from (hr.mono (by lia)) (passE fun _ _ h => h) rfl (qcons (qv 0) (qcons (qF C_behind (hr.mono (by lia)) (passE fun _ _ h => h) rfl (qcons (qv 0) (qcons (qop rAdd (qv 3) (qB fLenS rfl T.b_len bt_len (qcons (qv 4) qnil))) (qcons qstr qnil)))) qnil))))
      (bone (sret (qtup (qcons (qtup (qcons (qix (xIx K) (qv 2) qint (fun _ _ => rfl)) (qcons (qF C_read_number (hr.mono (by lia)) (passE fun _ _ h => h) rfl (qcons (qv 4) qnil)) (qcons (qix (xIx K) (qv 5) qint (fun _ _ => rfl)) qnil)))) (qcons (qF C_behind (hr.mono (by lia)) (passE fun _ _ h => h) rfl (qcons (qv 0) (qcons (qix (xIx K) (qv 5) qint (fun _ _ => rfl)) (qcons qstr qnil)))) qnil)))))))))), ?_⟩
      have hxl := ls_len x
      have hx := ht.1
      apply join (fun σ' G => σ' = [some (.str x), some (.int (p : Int)), none, none, none, none] ∧ G = H ∧ (ls x)[p]? ≠ some 46)
      case h2 =>
        intro hj
        refine ⟨_, rfl, _, rfl, _, rfl, _, rfl, _, rfl, x, rfl, ?_⟩
        cases hc : (ls x)[p]? with
        | none =>
          rw [slice_end (by have := List.getElem?_eq_none_iff.mp hc; lia)]
          refine ⟨by decide, _, rfl, ?_⟩
          rw [c_dot, decide_eq_false (show ¬ (Str.empty : Str) = ⟨#[46]⟩ by decide)]
          refine iteF ?_
          exact hj _ _ ⟨rfl, rfl, by rw [hc]; exact fun z => nomatch z⟩
        | some d =>
          rw [slice_one hc]
          refine ⟨by rw [one_len]; decide, _, rfl, ?_⟩
          by_cases e : d = 46
          · subst e
            rw [c_dot, decide_eq_true rfl]
            refine iteT ?_
            exact ⟨_, rfl, (show 2 ≤ sizeLine by decide), fun r1 H1 n1 s1 e1 _ => q .nil _ (fun k hk => by simp [Tr.keys] at hk) (get_drop hc) r1 .non H1 s1 e1 .non⟩
          · rw [c_dot, decide_eq_false (show ¬ (⟨#[d]⟩ : Str) = ⟨#[46]⟩ from fun z => e (by cases z; rfl))]
            refine iteF ?_
            exact hj _ _ ⟨rfl, rfl, by rw [hc]; exact fun z => e (Option.some.inj z)⟩
      rintro σ' G ⟨rfl, rfl, h46⟩
      rw [c_op, c_sp, c_cl]
      refine ⟨_, rfl, _, rfl, _, rfl, x, p, 40, rfl, ht, hp, fun h40 => ?_, fun hn => qE (fun t rest bt hd => by
        obtain ⟨l, k, r, _, _, _, _, h, _⟩ := parse_node h46 bt hd
        exact hn h) _ (Same.refl _)⟩
      have hd0 := get_drop h40
      have hp1 := (List.getElem?_eq_some_iff.mp h40).1
      have hcn1 : ((ls x).drop (p + 1)).count 40 < n := by
        rw [hd0, List.count_cons_self] at hcn; lia
      refine ⟨x, p + 1, rfl, ht, hp1, hcn1, fun l rest1 bl d1 r1 v1 H1 s1 e1 g1 => ?_, fun no H1 s1 => qE (fun t rest bt hd => by
        obtain ⟨l, k, r, _, b1, _, _, _, h⟩ := parse_node h46 bt hd
        exact no l _ b1 h) H1 s1⟩
      have d2 := drop_app d1
      -- what any reading of the whole must be
      have un1 : ∀ t rest, BdT t → (ls x).drop p = showL t ++ rest → ∃ k r, Bd k ∧ BdT r ∧ rest1 = 32 :: (ls (num k) ++ 32 :: (showL r ++ 41 :: rest)) := fun t rest bt hd => by
        obtain ⟨l', k, r, _, b1, b2, b3, _, h⟩ := parse_node h46 bt hd
        rw [d1] at h
        obtain ⟨_, h'⟩ := show_free _ _ bl b1 h
        exact ⟨k, r, b2, b3, h'⟩
      refine ⟨_, rfl, _, rfl, r1, _, 1, _, rfl, rfl, .inr (SqT.of e1), atI_nat (j := 1) rfl, x, p + 1 + (showL l).length, 32, rfl, ht, ?_, fun h32 => ?_, fun hn => qE (fun t rest bt hd => by
        obtain ⟨k, r, _, _, e⟩ := un1 t rest bt hd
        rw [e] at d2
        exact hn (drop_get d2)) _ s1⟩
      · have h1 := congrArg List.length d1
        rw [List.length_drop, List.length_append] at h1
        lia
      have d3 := get_drop h32
      rw [d2] at d3
      have hkp : p + 1 + (showL l).length + 1 ≤ (ls x).length := (List.getElem?_eq_some_iff.mp h32).1
      have hrest := slice_rest hkp
      have hyl : (PySem.StrLaws.sliceText x (some ((p + 1 + (showL l).length + 1 : Nat) : Int)) none).length ≤ 100000 := by
        rw [ls_len, hrest, List.length_drop]; lia
      obtain ⟨a, hW, ha, hcase⟩ := part_any (PySem.StrLaws.sliceText x (some ((p + 1 + (showL l).length + 1 : Nat) : Int)) none)
      rw [hrest] at hcase
      refine ⟨_, rfl, _, rfl, _, rfl, x, rfl, big (by lia), rfl, _, _, rfl, rfl, rfl, big (by lia), fun tp H2 n2 s2 e2 _ => ?_⟩
      rw [hW] at e2
      refine ⟨tp, _, 0, _, rfl, rfl, .inr (SqT.of e2), atI_nat (j := 0) rfl, ?_⟩
      have hal : a.length ≤ (ls x).length - (p + 1 + (showL l).length + 1) := by
        rcases hcase with h | ⟨r, h⟩
        · rw [← h, List.length_drop]; lia
        · have h1 := congrArg List.length h
          rw [List.length_drop, List.length_append] at h1
          lia
      have hWl : (⟨a.toArray⟩ : Str).length = a.length := by rw [ls_len]
      have hWt : T48 (⟨a.toArray⟩ : Str) := by
        refine ⟨by rw [hWl]; lia, fun c hc => ht.2 c (List.mem_of_mem_drop (i := p + 1 + (showL l).length + 1) ?_)⟩
        have hc : c ∈ a := hc
        rcases hcase with h | ⟨r, h⟩
        · rw [h]; exact hc
        · rw [h]; exact List.mem_append_left _ hc
      -- what any reading must be from the word on
      have un2 : ∀ t rest, BdT t → (ls x).drop p = showL t ++ rest → ∃ k r, Bd k ∧ BdT r ∧ a = ls (num k) ∧ (ls x).drop (p + 1 + (showL l).length + 1) = a ++ 32 :: (showL r ++ 41 :: rest) := fun t rest bt hd => by
        obtain ⟨k, r, b2, b3, e⟩ := un1 t rest bt hd
        have e3 : (ls x).drop (p + 1 + (showL l).length + 1) = ls (num k) ++ 32 :: (showL r ++ 41 :: rest) := by
          rw [e] at d3
          exact (List.cons.inj d3).2.symm
        rcases hcase with h | ⟨r0, h⟩
        · rw [h] at e3
          exact absurd (by rw [e3]; simp) ha
        · rw [h] at e3
          obtain ⟨e4, e5⟩ := app_c ha (num_free k) e3
          exact ⟨k, r, b2, b3, e4, by rw [h, e5]⟩
      have s12 := s1.trans s2
      refine ⟨_, rfl, _, rfl, _, rfl, _, rfl, (⟨a.toArray⟩ : Str), rfl, big (by rw [hWl]; lia), ?_⟩
      refine ⟨x, p + 1 + (showL l).length + 1 + a.length, 32, ?_, ht, by lia, fun h32' => ?_, fun hn => qE (fun t rest bt hd => by
        obtain ⟨k, r, _, _, _, e⟩ := un2 t rest bt hd
        exact hn (drop_get (drop_app e))) _ s12⟩
      · rw [hWl]
        have : (((p + 1 + (showL l).length + 1 : Nat) : Int) + (a.length : Int)) = ((p + 1 + (showL l).length + 1 + a.length : Nat) : Int) := by lia
        rw [← this]
      obtain ⟨r2, hr2⟩ : ∃ r2, (ls x).drop (p + 1 + (showL l).length + 1) = a ++ 32 :: r2 := by
        rcases hcase with h | ⟨r2, h⟩
        · have h1 := (List.getElem?_eq_some_iff.mp h32').1
          have h2 := congrArg List.length h
          rw [List.length_drop] at h2
          lia
        · exact ⟨r2, h⟩
      have d5 := drop_next (drop_app hr2)
      have hp5 := (List.getElem?_eq_some_iff.mp h32').1
      have hcn5 : ((ls x).drop (p + 1 + (showL l).length + 1 + a.length + 1)).count 40 < n := by
        refine Nat.lt_of_le_of_lt (List.Sublist.count_le 40 ?_) hcn1
        rw [show p + 1 + (showL l).length + 1 + a.length + 1 = (p + 1) + ((showL l).length + 1 + a.length + 1) by lia, ← List.drop_drop]
        exact List.drop_sublist _ _
      refine ⟨x, p + 1 + (showL l).length + 1 + a.length + 1, rfl, ht, hp5, hcn5, fun r rest3 br d6 r3 v3 H3 s3 e3 g3 => ?_, fun no H3 s3 => qE (fun t rest bt hd => by
        obtain ⟨k, r', _, b3, _, e⟩ := un2 t rest bt hd
        exact no r' _ b3 (drop_next (drop_app e))) H3 (s12.trans s3)⟩
      have s13 := s12.trans s3
      have e13 := s3 _ _ (s2 _ _ e1)
      refine ⟨_, rfl, r1, _, 0, _, rfl, rfl, .inr (SqT.of e13), atI_nat (j := 0) rfl, _, rfl, (⟨a.toArray⟩ : Str), rfl, hWt, fun k bk ek H4 s4 => ?_, fun nk H4 s4 => qE (fun t rest bt hd => by
        obtain ⟨k, r', b2, _, e, _⟩ := un2 t rest bt hd
        exact nk ⟨k, b2, ls_ext (by rw [← e])⟩) H4 (s13.trans s4)⟩
      have eka : a = ls (num k) := by rw [← ek]
      refine ⟨_, rfl, r3, _, 0, _, rfl, rfl, .inr (SqT.of (s4 _ _ e3)), atI_nat (j := 0) rfl, (show 3 ≤ sizeLine by decide), fun kt H5 n5 s5 e5 _ => ?_⟩
      have hp6 : p + 1 + (showL l).length + 1 + a.length + 1 + (showL r).length ≤ (ls x).length := by
        have h1 := congrArg List.length d6
        rw [List.length_drop, List.length_append] at h1
        lia
      refine ⟨_, rfl, _, rfl, r3, _, 1, _, rfl, rfl, .inr (SqT.of (s5 _ _ (s4 _ _ e3))), atI_nat (j := 1) rfl, x, p + 1 + (showL l).length + 1 + a.length + 1 + (showL r).length, 41, rfl, ht, hp6, fun h41 => ?_, fun hn => qE (fun t rest bt hd => by
        obtain ⟨k', r', _, b3, _, e⟩ := un2 t rest bt hd
        have e6 := drop_next (drop_app e)
        rw [d6] at e6
        obtain ⟨_, e7⟩ := show_free _ _ br b3 e6
        have e8 := drop_app d6
        rw [e7] at e8
        exact hn (drop_get e8)) _ (s13.trans (s4.trans s5))⟩
      refine ⟨(show 2 ≤ sizeLine by decide), fun rr H6 n6 s6 e6 _ => ?_⟩
      have d7 := drop_app d6
      have d8 := get_drop h41
      rw [d7] at d8
      have s26 := ((s2.trans s3).trans s4).trans (s5.trans s6)
      refine q (.node l k r) ((ls x).drop (p + 1 + (showL l).length + 1 + a.length + 1 + (showL r).length + 1)) (fun y hy => ?_) ?_ rr (.ref kt) H6 (s1.trans s26) ?_ (rep_mk (s6 _ _ e5) (g1.mono s26) (g3.mono (s4.trans (s5.trans s6))))
      · simp only [Tr.keys, List.mem_append, List.mem_singleton] at hy
        rcases hy with (hy | hy) | hy
        · exact bl y hy
        · rw [hy]; exact bk
        · exact br y hy
      · rw [hd0, d1, d3, hr2]
        rw [d5] at d6
        rw [d6, d8, eka]
        simp [showL]
      · rw [e6]
        have : p + 1 + (showL l).length + 1 + a.length + 1 + (showL r).length + 1 = p + (showL (Tr.node l k r)).length := by
          rw [eka]
          simp only [showL, List.length_cons, List.length_append, List.length_nil]
          lia
        rw [this]
end
end K48
namespace K48
open PySem L2 L3 PySem.NumText
theorem count_ge {x : Str} {c : Nat} : (((ls x).count c : Nat) : Int) ≤ Txt.count x ⟨#[c]⟩ := by
  have h1 := join_count (split_ne x ⟨#[c]⟩) (PySem.StrLaws.split_free x c)
  rw [show ls (Str.join ⟨#[c]⟩ (Txt.split x ⟨#[c]⟩)) = ls x from congrArg ls (PySem.StrLaws.join_split x _)] at h1
  unfold Txt.count
  unfold Txt.split at h1
  split at h1
  · rw [List.length_singleton] at h1
    rw [show (ls x).count c = 0 by lia]
    exact Int.natCast_nonneg _
  · split at h1
    · rw [List.length_singleton] at h1
      rw [show (ls x).count c = 0 by lia]
      exact Int.natCast_nonneg _
    · rw [PySem.length_partsBetween] at h1
      lia
noncomputable def OfT (x : Str) (t : Tr) : Prop := BdT t ∧ ls x = showL t ∧ t.ord none none ∧ t.size ≤ 60
noncomputable def spRtE (cX : Addr) : Sp := fun vs H Q E => ∃ (v : V) (d : D), vs = [v] ∧ Rep H v d ∧
  ((∃ x, d = .str x ∧ T48 x ∧ (∀ t, OfT x t → ∀ v H', Same H H' → Rep H' v t.d → Q v H') ∧ ((¬ ∃ t, OfT x t) → ∀ H', Same H H' → E (.ref cX) none H')) ∨ ((∀ x, d ≠ .str x) ∧ ∀ H', Same H H' → E (.ref cX) none H'))
section
variable {P : Program} {w : World} {K : PySem.W.Frag} {mg : Str → Option Value} {base : Heap}
theorem ok_rt {f cX : Addr} (F : Fd K mg "read_tree" s_read_tree f) (T : Tx K mg) (R_NoText : ErrK K mg "NoText" cX) (C_tree_from : Cal P w K mg base (CXE P w) 63 "tree_from" (spTfE cX 61)) (C_is_tree : Cal P w K mg base CX0 81 "is_tree" spIsT) : Cal P w K mg base (CXE P w) 82 "read_tree" (spRtE cX) := by
  refine F.calE sc_read_tree (fun _ _ _ _ _ _ us hl => L3.bind1 (fun _ => rfl) us hl) (fun vs H Q E h => ?_) (fun cdv A outer s H vs Q E hr h => ?_)
  · obtain ⟨v, d, rfl, _⟩ := h; rfl
  · obtain ⟨v, d, rfl, hv, h⟩ := h
    refine ⟨_, (bcons (sif (QW.tst (wor (tnot (ttru K (qB (fIsi K) rfl T.b_isinstance bt_isinstance (qcons (qv 0) (qcons (qty rfl T.b_str bt_str) qnil))) (fun _ => rfl))) (wor1 (tcmp rGt (qBm K PySem.F.plainAttrs_str PySem.F.slot_str_count PySem.F.type_str_count mCount (qv 0) (qcons qstr qnil)) (qglobI rfl T.g_MOST_KEYS) (nomark _))))) (bone (sraise R_NoText rfl (qcons qstr qnil))) bnil)
      (bcons (sset (i := 1) sc_read_tree.nd rfl (by first | exact Or.inl rfl | exact Or.inr rfl) (qF C_tree_from (hr.mono (by lia)) (passE fun _ _ h => h) rfl (qcons (qv 0) (qcons qint qnil))))
      (bcons (sif (QW.tst (wor (tcmp (rNeq hr) (qix (xIx K) (qv 1) qint (fun _ _ => rfl)) (qB fLenS rfl T.b_len bt_len (qcons (qv 0) qnil)) (nomark _)) (wor1 (tnot (ttru K (qF C_is_tree (hr.mono (by lia)) pass0 rfl (qcons (qix (xIx K) (qv 1) qint (fun _ _ => rfl)) qnil)) (fun _ => rfl)))))) (bone (sraise R_NoText rfl (qcons qstr qnil))) bnil)
      (bone (snox (sret (qix (xIx K) (qv 1) qint (fun _ _ => rfl)))))))), ?_⟩
    rcases h with ⟨x, rfl, ht, q, qE⟩ | ⟨hd, qE⟩
    · cases hv
      refine ⟨_, rfl, V.str x, _, _, _, rfl, (Rep.str x : Rep H _ _).ty, kit_str K (D.str x), _, rfl, ?_⟩
      refine iteF ?_
      rw [c_op]
      have hge := count_ge (x := x) (c := 40)
      have hle := count_le (x := x) (c := 40)
      refine ⟨_, rfl, rfl, _, _, rfl, rfl, _, _, rfl, rfl, _, rfl, ?_⟩
      by_cases hc : (ls x).count 40 ≤ 60
      · rw [decide_eq_false (show ¬ (60 : Int) < Txt.count x ⟨#[40]⟩ by lia)]
        refine iteF ?_
        refine ⟨_, rfl, x, 0, rfl, ht, Nat.zero_le _, by rw [List.drop_zero]; lia, fun t rest bt hd r1 v1 H1 s1 e1 g1 => ?_, fun no H1 s1 => qE (fun ⟨t, bt, e, _⟩ => no t [] bt (by rw [List.drop_zero, e, List.append_nil])) H1 s1⟩
        rw [List.drop_zero] at hd
        have hts : t.size ≤ 60 := by
          have h1 := congrArg (List.count 40) hd
          rw [List.count_append, show_count] at h1
          lia
        have hone : ∀ t', OfT x t' → t' = t ∧ rest = [] := fun t' ⟨b', e', _⟩ => by
          rw [e'] at hd
          have := show_free t' t (r := []) (r' := rest) b' bt (by rw [List.append_nil]; exact hd)
          exact ⟨this.1, this.2.symm⟩
        refine ⟨_, rfl, r1, _, 1, _, rfl, rfl, .inr (SqT.of e1), atI_nat (j := 1) rfl, _, rfl, x, rfl, big (by have := ht.1; lia), _, rfl, ?_⟩
        have hlen : ls x = showL t ++ rest := hd
        by_cases hr : rest = []
        · have eL : ((0 + (showL t).length : Nat) : Int) = (x.length : Int) := by rw [ls_len, hlen, hr, List.append_nil, Nat.zero_add]
          rw [decide_eq_true eL]
          refine iteF ?_
          refine ⟨_, rfl, r1, _, 0, _, rfl, rfl, .inr (SqT.of e1), atI_nat (j := 0) rfl, v1, t, rfl, g1, hts, fun b H2 s2 hb => ?_⟩
          refine ⟨_, rfl, ?_⟩
          cases b with
          | true =>
            refine iteF ?_
            exact ⟨_, rfl, r1, _, 0, _, rfl, rfl, .inr (SqT.of (s2 _ _ e1)), atI_nat (j := 0) rfl, q t ⟨bt, by rw [hlen, hr, List.append_nil], hb.mp rfl, hts⟩ v1 H2 (s1.trans s2) (g1.mono s2)⟩
          | false =>
            refine iteT ?_
            exact ⟨(show 1 ≤ sizeLine by decide), qE (fun ⟨t', o⟩ => by
              obtain ⟨rfl, _⟩ := hone t' o
              exact nomatch hb.mpr o.2.2.1) H2 (s1.trans s2)⟩
        · have eL : ¬ ((0 + (showL t).length : Nat) : Int) = (x.length : Int) := fun z => hr (by
            have h1 := congrArg List.length hlen
            rw [List.length_append, ← ls_len] at h1
            exact List.length_eq_zero_iff.mp (by lia))
          rw [decide_eq_false eL]
          refine iteT ?_
          refine iteT ?_
          exact ⟨(show 1 ≤ sizeLine by decide), qE (fun ⟨t', o⟩ => hr (hone t' o).2) H1 s1⟩
      · rw [decide_eq_true (show (60 : Int) < Txt.count x ⟨#[40]⟩ by lia)]
        refine iteT ?_
        exact ⟨(show 1 ≤ sizeLine by decide), qE (fun ⟨t, _, e, _, z⟩ => hc (by rw [e, show_count]; exact z)) H (Same.refl _)⟩
    · refine ⟨_, rfl, v, _, _, _, rfl, hv.ty, kit_str K d, _, rfl, ?_⟩
      have e : d.isStr = false := by
        cases d with
        | str x => exact absurd rfl (hd x)
        | _ => rfl
      rw [e]
      refine iteT ?_
      refine iteT ?_
      exact ⟨(show 1 ≤ sizeLine by decide), qE H (Same.refl _)⟩
end
end K48
namespace K48
open PySem L2 L3 PySem.NumText
theorem part_in (c : Nat) : ∀ (A : List Str) (y : Str), y ∈ A → (∀ d ∈ ls y, d ∈ ls (Str.join ⟨#[c]⟩ A)) ∧ (ls y).length ≤ (ls (Str.join ⟨#[c]⟩ A)).length
  | [], _, h => by cases h
  | [a], y, h => by
    rw [List.mem_singleton] at h
    subst h
    rw [join_one]
    exact ⟨fun _ z => z, Nat.le_refl _⟩
  | a :: a' :: r, y, h => by
    rw [ls_two]
    rcases List.mem_cons.mp h with rfl | h
    · exact ⟨fun d hd => List.mem_append_left _ hd, by rw [List.length_append]; lia⟩
    · obtain ⟨h1, h2⟩ := part_in c (a' :: r) y h
      exact ⟨fun d hd => List.mem_append_right _ (.tail _ (h1 d hd)), by rw [List.length_append, List.length_cons]; lia⟩
theorem split_t {x : Str} (ht : T48 x) (c : Nat) {y : Str} (hy : y ∈ Txt.split x ⟨#[c]⟩) : T48 y := by
  obtain ⟨h1, h2⟩ := part_in c _ y hy
  rw [show ls (Str.join ⟨#[c]⟩ (Txt.split x ⟨#[c]⟩)) = ls x from congrArg ls (PySem.StrLaws.join_split x _)] at h1 h2
  have := ht.1
  rw [ls_len] at this
  exact ⟨by rw [ls_len]; lia, fun d hd => ht.2 d (h1 d hd)⟩
theorem split_len (x : Str) (c : Nat) : (Txt.split x ⟨#[c]⟩).length ≤ x.length + 1 := by
  have h1 := join_count (split_ne x ⟨#[c]⟩) (PySem.StrLaws.split_free x c)
  rw [show ls (Str.join ⟨#[c]⟩ (Txt.split x ⟨#[c]⟩)) = ls x from congrArg ls (PySem.StrLaws.join_split x _)] at h1
  have := List.count_le_length (a := c) (l := ls x)
  rw [ls_len]; lia
noncomputable def pgW (x : Str) : List Str := if x.length = 0 then [] else Txt.split x ⟨#[32]⟩
noncomputable def spPgE (cX : Addr) : Sp := fun vs H Q E => ∃ x : Str, vs = [.str x] ∧ T48 x ∧ (∀ p : List Int, (∀ k ∈ p, Bd k) → pgW x = p.map num → ∀ r H', H r = none → Same H H' → H' r = some (.lst (p.map V.int)) → Q (.ref r) H') ∧
  ((∃ y ∈ pgW x, ¬ KeyW y) → ∀ H', Same H H' → E (.ref cX) none H')
theorem sizeHuge48 {n : Nat} (h : n ≤ 200001) : n < sizeLine := Nat.lt_of_le_of_lt h (by decide)
theorem tru_len {K : PySem.W.Frag} {H : Hp} {y : Str} (h : y.length ≤ sizeLine) : TruV K (.str y) H ((y.length : Int) != 0) := ⟨h, rfl⟩
section
variable {P : Program} {w : World} {K : PySem.W.Frag} {mg : Str → Option Value} {base : Heap}
theorem ok_pg {f cX : Addr} (F : Fd K mg "read_page" s_read_page f) (T : Tx K mg) (C_read_number : Cal P w K mg base (CXE P w) 2 "read_number" (spNumE cX)) : Cal P w K mg base (CXE P w) 3 "read_page" (spPgE cX) := by
  refine F.calE sc_read_page (fun _ _ _ _ _ _ us hl => L3.bind1 (fun _ => rfl) us hl) (fun vs H Q E h => ?_) (fun cdv A outer s H vs Q E hr h => ?_)
  · obtain ⟨x, rfl, _⟩ := h; rfl
  · obtain ⟨x, rfl, ht, q, qE⟩ := h
    have hl := ht.1
    refine ⟨_, (bone (sret (qif (ttru K (qv 0) (fun _ => rfl)) (qcompX (sc := defScope s_read_page) (NX := ["text"]) ["word"] [none] rfl (iseq K (qBm K PySem.F.plainAttrs_str PySem.F.slot_str_split PySem.F.type_str_split mSplit (qv 0) (qcons qstr qnil))) (fun _ _ _ => (gname (i := 0) (show (["word"] : List Str).Nodup by decide +kernel) rfl (by first | exact Or.inl rfl | exact Or.inr rfl))) (fun _ _ _ => csnil) (fun _ _ _ => (qF C_read_number (hr.mono (by lia)) passX rfl (qcons (qv 0) qnil))) rfl rfl (by decide +kernel)) (qlst qnil)))), ?_⟩
    refine ⟨_, rfl, _, tru_len (big (by lia)), ?_⟩
    by_cases h0 : x.length = 0
    · have e0 : ((x.length : Int) != 0) = false := by rw [h0]; rfl
      rw [e0]
      refine iteF ?_
      have ep : pgW x = [] := by unfold pgW; rw [if_pos h0]
      exact ⟨(show 0 ≤ sizeLine by decide), fun r H1 n1 s1 e1 _ => q [] (fun k hk => nomatch hk) (by rw [ep]; rfl) r H1 n1 s1 e1⟩
    · have e0 : ((x.length : Int) != 0) = true := by
        rw [bne_iff_ne]; lia
      rw [e0]
      refine iteT ?_
      have ep : pgW x = Txt.split x ⟨#[32]⟩ := by unfold pgW; rw [if_neg h0]
      have hsl := split_len x 32
      refine ⟨_, rfl, rfl, x, _, rfl, rfl, rfl, big (by lia), ?_, ?_⟩
      · rw [c_sp]; exact big (by lia)
      rw [c_sp, ← ep]
      rw [← ep] at hsl
      refine fun l1 H1 n1 s1 e1 _ => ?_
      refine ⟨l1, rfl, .inl ⟨⟨_, SqL.of e1⟩, fun ac hac => ?_⟩⟩
      refine comp_list (xs := (pgW x).map V.str) (fun i ys σ G => ∃ (z : Option V) (ps : List Int), σ = [z] ∧ Same H1 G ∧ G ac = some (.lst ys) ∧ ys = ps.map V.int ∧ (pgW x).take i = ps.map num ∧ ∀ k ∈ ps, Bd k) ⟨none, [], rfl, same_new hac, upd_same, rfl, rfl, fun k hk => nomatch hk⟩ (fun i ys σ G hh => by obtain ⟨_, _, _, s', _⟩ := hh; exact SqL.of (s' _ _ e1)) ?_ ?_
      · rintro i ys y σ G hy hi ⟨z, ps, rfl, sG, aG, rfl, htk, hb⟩
        rw [List.getElem?_map] at hy
        obtain ⟨v, hv, rfl⟩ := Option.map_eq_some_iff.mp hy
        have hvm : v ∈ pgW x := List.mem_of_getElem? hv
        have hpl := congrArg List.length htk
        rw [List.length_take, List.length_map] at hpl
        refine ⟨_, rfl, v, rfl, split_t ht 32 (by rw [← ep]; exact hvm), fun n bn en G2 s2 => ?_, fun nk G2 s2 => qE ⟨v, hvm, nk⟩ G2 (s1.trans (sG.trans s2))⟩
        refine cpost (s2 _ _ aG) (sizeHuge48 (by rw [List.length_map]; lia)) hi ?_
        refine ⟨_, ps ++ [n], rfl, same_upd (sG.trans s2) hac, upd_same, by rw [List.map_append]; rfl, by rw [List.take_add_one, hv, htk, List.map_append, en]; rfl, fun k hk => ?_⟩
        rcases List.mem_append.mp hk with h | h
        · exact hb k h
        · rw [List.mem_singleton] at h; subst h; exact bn
      · rintro ys σ G ⟨z, ps, rfl, sG, aG, rfl, htk, hb⟩
        rw [List.length_map, List.take_length] at htk
        exact q ps hb htk ac G (s1.free hac) (s1.trans sG) aG
end
end K48
namespace K48
open PySem L2 L3 PySem.NumText
theorem c_bar : ("|" : Str) = ⟨#[124]⟩ := by decide
noncomputable def layW (x : Str) : List Str := if x.length = 0 then [] else Txt.split x ⟨#[124]⟩
noncomputable def OfL (x : Str) (L : List (List Int)) : Prop := (∀ p ∈ L, ∀ k ∈ p, Bd k) ∧ (layW x).map pgW = L.map (List.map num) ∧ L.length ≤ 60 ∧ (L.map List.length).sum ≤ 60
noncomputable def spLyE (cX : Addr) : Sp := fun vs H Q E => ∃ (v : V) (d : D), vs = [v] ∧ Rep H v d ∧
  ((∃ x, d = .str x ∧ T48 x ∧ (∀ L, OfL x L → ∀ r H' bs, Same H H' → H' r = some (.lst (bs.map V.ref)) → Pgs H' bs L → Q (.ref r) H') ∧ ((¬ ∃ L, OfL x L) → ∀ H', Same H H' → E (.ref cX) none H')) ∨ ((∀ x, d ≠ .str x) ∧ ∀ H', Same H H' → E (.ref cX) none H'))
theorem sum_cast (xs : List Nat) : (xs.map fun n : Nat => (n : Int)).sum = ((xs.sum : Nat) : Int) := by
  induction xs with
  | nil => rfl
  | cons x xs ih => rw [List.map_cons, List.sum_cons, List.sum_cons, ih]; lia
theorem num_key {k : Int} (h : Bd k) : KeyW (num k) := ⟨k, h, rfl⟩
inductive LyJ (H : Hp) (x : Str) (σ : L2.St) (G : Hp) : Prop
  | mk (r : Addr) (bs : List Addr) (L : List (List Int)) (e : σ = [some (.str x), some (.ref r)]) (sG : Same H G) (er : G r = some (.lst (bs.map V.ref))) (pg : Pgs G bs L) (hB : ∀ p ∈ L, ∀ k ∈ p, Bd k) (hL : (layW x).map pgW = L.map (List.map num)) : LyJ H x σ G
inductive LyI (H1 : Hp) (x : Str) (ac : Addr) (i : Nat) (ys : List V) (σ : L2.St) (G : Hp) : Prop
  | mk (z : Option V) (bs : List Addr) (L : List (List Int)) (e : σ = [z]) (sG : Same H1 G) (aG : G ac = some (.lst ys)) (ey : ys = bs.map V.ref) (pG : Pgs G bs L) (hb : ∀ b ∈ bs, b ≠ ac) (hB : ∀ p ∈ L, ∀ k ∈ p, Bd k) (htk : ((layW x).take i).map pgW = L.map (List.map num)) : LyI H1 x ac i ys σ G
theorem LyI.same {H1 : Hp} {x : Str} {ac : Addr} {i : Nat} {ys : List V} {σ : L2.St} {G : Hp} (h : LyI H1 x ac i ys σ G) : Same H1 G := by cases h; assumption
section
variable {P : Program} {w : World} {K : PySem.W.Frag} {mg : Str → Option Value} {base : Heap}
theorem ok_ly {f cX : Addr} (F : Fd K mg "read_layout" s_read_layout f) (T : Tx K mg) (R_NoText : ErrK K mg "NoText" cX) (C_read_page : Cal P w K mg base (CXE P w) 3 "read_page" (spPgE cX)) : Cal P w K mg base (CXE P w) 4 "read_layout" (spLyE cX) := by
  refine F.calE sc_read_layout (fun _ _ _ _ _ _ us hl => L3.bind1 (fun _ => rfl) us hl) (fun vs H Q E h => ?_) (fun cdv A outer s H vs Q E hr h => ?_)
  · obtain ⟨v, d, rfl, _⟩ := h; rfl
  · obtain ⟨v, d, rfl, hv, h⟩ := h
    refine ⟨_, (bcons (sif (tnot (ttru K (qB (fIsi K) rfl T.b_isinstance bt_isinstance (qcons (qv 0) (qcons (qty rfl T.b_str bt_str) qnil))) (fun _ => rfl))) (bone (sraise R_NoText rfl (qcons qstr qnil))) bnil)
      (bcons (sset (i := 1) sc_read_layout.nd rfl (by first | exact Or.inl rfl | exact Or.inr rfl) (qif (ttru K (qv 0) (fun _ => rfl)) (qcompX (sc := defScope s_read_layout) (NX := ["text", "layout"]) ["part"] [none] rfl (iseq K (qBm K PySem.F.plainAttrs_str PySem.F.slot_str_split PySem.F.type_str_split mSplit (qv 0) (qcons qstr qnil))) (fun _ _ _ => (gname (i := 0) (show (["part"] : List Str).Nodup by decide +kernel) rfl (by first | exact Or.inl rfl | exact Or.inr rfl))) (fun _ _ _ => csnil) (fun _ _ _ => (qF C_read_page (hr.mono (by lia)) passX rfl (qcons (qv 0) qnil))) rfl rfl (by decide +kernel)) (qlst qnil)))
      (bcons (sif (QW.tst (wor (tcmp rGt (qB (fLen K) rfl T.b_len bt_len (qcons (qv 1) qnil)) (qglobI rfl T.g_MOST_PAGES) (nomark _)) (wor1 (tcmp rGt (qB (fSum K) rfl T.b_sum bt_sum (qcons (qcomp (sc := defScope s_read_layout) (NX := ["text", "layout"]) ["page"] [none] rfl (iseq K (qv 1)) (fun _ _ _ => (gname (i := 0) (show (["page"] : List Str).Nodup by decide +kernel) rfl (by first | exact Or.inl rfl | exact Or.inr rfl))) (fun _ _ _ => csnil) (fun _ _ _ => (qB (fLen K) rfl T.b_len bt_len (qcons (qv 0) qnil))) rfl rfl (by decide +kernel)) qnil)) (qglobI rfl T.g_MOST_KEYS) (nomark _))))) (bone (sraise R_NoText rfl (qcons qstr qnil))) bnil)
      (bone (snox (sret (qv 1))))))), ?_⟩
    rcases h with ⟨x, rfl, ht, q, qE⟩ | ⟨hd, qE⟩
    · cases hv
      have hl := ht.1
      refine ⟨_, rfl, .str x, _, _, _, rfl, (Rep.str x : Rep H _ _).ty, kit_str K (D.str x), _, rfl, ?_⟩
      refine iteF ?_
      have hsl := split_len x 124
      have hlw : (layW x).length ≤ 100001 := by
        unfold layW
        split
        · simp
        · lia
      apply join (LyJ H x)
      case h2 =>
        intro hj
        refine ⟨_, rfl, _, tru_len (big (by lia)), ?_⟩
        by_cases h0 : x.length = 0
        · have e0 : ((x.length : Int) != 0) = false := by rw [h0]; rfl
          rw [e0]
          refine iteF ?_
          have ep : layW x = [] := by unfold layW; rw [if_pos h0]
          exact ⟨(show 0 ≤ sizeLine by decide), fun r H1 n1 s1 e1 _ => hj _ _ ⟨r, [], [], rfl, s1, e1, trivial, (fun p hp => nomatch hp), by rw [ep]; rfl⟩⟩
        · have e0 : ((x.length : Int) != 0) = true := by
            rw [bne_iff_ne]; lia
          rw [e0]
          refine iteT ?_
          have ep : layW x = Txt.split x ⟨#[124]⟩ := by unfold layW; rw [if_neg h0]
          refine ⟨_, rfl, rfl, x, _, rfl, rfl, rfl, big (by lia), ?_, ?_⟩
          · rw [c_bar]; exact big (by lia)
          rw [c_bar, ← ep]
          refine fun l1 H1 n1 s1 e1 _ => ?_
          refine ⟨l1, rfl, .inl ⟨⟨_, SqL.of e1⟩, fun ac hac => ?_⟩⟩
          refine comp_list (xs := (layW x).map V.str) (LyI H1 x ac) ⟨none, [], [], rfl, same_new hac, upd_same, rfl, trivial, (fun b hb => nomatch hb), (fun p hp => nomatch hp), rfl⟩ (fun i ys σ G h => SqL.of (h.same _ _ e1)) ?_ ?_
          · rintro i ys y σ G hy hi ⟨z, bs, L, rfl, sG, aG, rfl, pG, hb, hB, htk⟩
            rw [List.getElem?_map] at hy
            obtain ⟨y, hv, rfl⟩ := Option.map_eq_some_iff.mp hy
            have hvm : y ∈ layW x := List.mem_of_getElem? hv
            have hbl := pG.len
            have hpl := congrArg List.length htk
            rw [List.length_map, List.length_map, List.length_take] at hpl
            refine ⟨_, rfl, y, rfl, split_t ht 124 (by rw [← ep]; exact hvm), fun p bp ey b G2 n2 s2 e2 => ?_, fun ⟨u, hu, nk⟩ G2 s2 => qE (fun ⟨L', o⟩ => ?_) G2 (s1.trans (sG.trans s2))⟩
            · have hba : b ≠ ac := fun z => by rw [z, aG] at n2; cases n2
              refine cpost (s2 _ _ aG) (sizeHuge48 (by rw [List.length_map]; lia)) hi ?_
              refine ⟨_, bs ++ [b], L ++ [p], rfl, same_upd (sG.trans s2) hac, upd_same, by rw [List.map_append]; rfl, ?_, fun c hc => ?_, fun p' hp' => ?_, ?_⟩
              · refine ((pG.mono s2).stay fun c hc => upd_ne (hb c hc)).snoc ?_
                rw [upd_ne hba]; exact e2
              · rcases List.mem_append.mp hc with hc | hc
                · exact hb c hc
                · rw [List.mem_singleton] at hc
                  rw [hc]; exact hba
              · rcases List.mem_append.mp hp' with h | h
                · exact hB p' h
                · rw [List.mem_singleton] at h; subst h; exact bp
              · rw [List.take_add_one, hv, List.map_append, htk, List.map_append]
                show _ ++ [pgW y] = _
                rw [ey]; rfl
            · have h1 : pgW y ∈ (layW x).map pgW := List.mem_map_of_mem hvm
              rw [o.2.1] at h1
              obtain ⟨p', hp', e'⟩ := List.mem_map.mp h1
              rw [← e'] at hu
              obtain ⟨k, hk, rfl⟩ := List.mem_map.mp hu
              exact nk (num_key (o.1 p' hp' k hk))
          · rintro ys σ G ⟨z, bs, L, rfl, sG, aG, rfl, pG, hb, hB, htk⟩
            rw [List.length_map, List.take_length] at htk
            exact hj _ _ ⟨ac, bs, L, rfl, s1.trans sG, aG, pG, hB, htk⟩
      rintro σ' G ⟨r, bs, L, rfl, sG, er, pg, hB, hL⟩
      have hbl := pg.len
      have hLl := congrArg List.length hL
      rw [List.length_map, List.length_map] at hLl
      have same : ∀ L', OfL x L' → L'.length = L.length ∧ L'.map List.length = L.map List.length := fun L' o => by
        have e := o.2.1.symm.trans hL
        have e1 := congrArg List.length e
        have e2 := congrArg (List.map List.length) e
        rw [List.length_map, List.length_map] at e1
        rw [List.map_map, List.map_map] at e2
        refine ⟨e1, ?_⟩
        have f : (List.length ∘ List.map num) = (List.length : List Int → Nat) := by funext p; simp
        rw [f] at e2; exact e2
      refine ⟨_, rfl, r, _, rfl, .inl (SqL.of er), _, _, rfl, rfl, _, rfl, ?_⟩
      rw [List.length_map]
      by_cases h60 : bs.length ≤ 60
      · rw [decide_eq_false (show ¬ (60 : Int) < ((bs.length : Nat) : Int) by lia)]
        refine iteF ?_
        refine ⟨_, rfl, r, rfl, .inl ⟨⟨_, SqL.of er⟩, fun ac hac => ?_⟩⟩
        refine comp_list (xs := bs.map V.ref) (fun i ys σ G' => ∃ z, σ = [z] ∧ Same G G' ∧ G' ac = some (.lst ys) ∧ ys = (((L.take i).map List.length).map fun n : Nat => (n : Int)).map V.int) ⟨none, rfl, same_new hac, upd_same, rfl⟩ (fun i ys σ G hh => by obtain ⟨_, _, s', _⟩ := hh; exact SqL.of (s' _ _ er)) ?_ ?_
        · rintro i ys y σ G' hy hi ⟨z, rfl, sG', aG, rfl⟩
          rw [List.getElem?_map] at hy
          obtain ⟨b, hb', rfl⟩ := Option.map_eq_some_iff.mp hy
          obtain ⟨p, hpi, eb⟩ := pg.at hb'
          refine ⟨_, rfl, b, _, rfl, .inl (SqL.of (sG' _ _ eb)), ?_⟩
          refine cpost aG (sizeBig (by simp; lia)) hi ?_
          exact ⟨_, rfl, same_upd sG' hac, upd_same, by rw [List.length_map, List.take_add_one, hpi, List.map_append, List.map_append, List.map_append]; rfl⟩
        · rintro ys σ G' ⟨z, rfl, sG', aG, rfl⟩
          rw [List.length_map, hbl, List.take_length] at aG
          refine ⟨ac, _, rfl, SqL.of aG, _, _, rfl, rfl, _, rfl, ?_⟩
          rw [sum_cast]
          by_cases hs : (L.map List.length).sum ≤ 60
          · rw [decide_eq_false (show ¬ (60 : Int) < (((L.map List.length).sum : Nat) : Int) by lia)]
            refine iteF ?_
            exact ⟨_, rfl, q L ⟨hB, hL, by lia, hs⟩ r G' bs (sG.trans sG') (sG' _ _ er) (pg.mono sG')⟩
          · rw [decide_eq_true (show (60 : Int) < (((L.map List.length).sum : Nat) : Int) by lia)]
            refine iteT ?_
            exact ⟨(show 1 ≤ sizeLine by decide), qE (fun ⟨L', o⟩ => hs (by rw [← (same L' o).2]; exact o.2.2.2)) G' (sG.trans sG')⟩
      · rw [decide_eq_true (show (60 : Int) < ((bs.length : Nat) : Int) by lia)]
        refine iteT ?_
        refine iteT ?_
        exact ⟨(show 1 ≤ sizeLine by decide), qE (fun ⟨L', o⟩ => h60 (by have := (same L' o).1; have := o.2.2.1; lia)) G sG⟩
    · refine ⟨_, rfl, v, _, _, _, rfl, hv.ty, kit_str K d, _, rfl, ?_⟩
      have e : d.isStr = false := by
        cases d with
        | str x => exact absurd rfl (hd x)
        | _ => rfl
      rw [e]
      refine iteT ?_
      exact ⟨(show 1 ≤ sizeLine by decide), qE H (Same.refl _)⟩
end
end K48
namespace K48
open PySem L2 L3 PySem.NumText
theorem empty_len : Str.empty.length = 0 := rfl
noncomputable def spShow (n : Nat) : Sp := fun vs H Q _ => ∃ (v : V) (t : Tr), vs = [v] ∧ Rep H v t.d ∧ t.ht < n ∧ t.size ≤ 60 ∧ BdT t ∧ Q (.str (shT t)) H
noncomputable def keysT (p : List Int) : Str := Str.join ⟨#[32]⟩ (p.map num)
noncomputable def layT (L : List (List Int)) : Str := Str.join ⟨#[124]⟩ (L.map keysT)
theorem sp_is : (" " : Str) = ⟨#[32]⟩ := by decide
theorem bar_is : ("|" : Str) = ⟨#[124]⟩ := by decide
noncomputable def PgOk (p : List Int) : Prop := p.length ≤ 60 ∧ ∀ k ∈ p, Bd k
theorem keys_len {p : List Int} (h : PgOk p) : (keysT p).length ≤ 4000 := by
  have := join_le ⟨#[32]⟩ (p.map num) (B := 61) fun y hy => by
    obtain ⟨k, hk, rfl⟩ := List.mem_map.mp hy
    exact (num_len (h.2 k hk)).2
  rw [List.length_map] at this
  have h1 := h.1
  have h2 : (⟨#[32]⟩ : Str).length = 1 := rfl
  rw [h2] at this
  show (Str.join _ _).length ≤ _
  lia
theorem keys_ok {p : List Int} (h : PgOk p) : JoinOk ⟨#[32]⟩ (p.map num) = true := join_ok (B := 61) (fun y hy => by
    obtain ⟨k, hk, rfl⟩ := List.mem_map.mp hy
    exact (num_len (h.2 k hk)).2) (by
  rw [List.length_map]
  have h1 := h.1
  have h2 : (⟨#[32]⟩ : Str).length = 1 := rfl
  rw [h2]
  lia)
theorem lay_ok {L : List (List Int)} (hl : L.length ≤ 60) (h : ∀ p ∈ L, PgOk p) : JoinOk ⟨#[124]⟩ (L.map keysT) = true := join_ok (B := 4000) (fun y hy => by
    obtain ⟨p, hp, rfl⟩ := List.mem_map.mp hy
    exact keys_len (h p hp)) (by
  rw [List.length_map]
  have h2 : (⟨#[124]⟩ : Str).length = 1 := rfl
  rw [h2]
  lia)
noncomputable def spShK : Sp := fun vs H Q _ => ∃ (a : Addr) (p : List Int), vs = [.ref a] ∧ H a = some (.lst (p.map V.int)) ∧ PgOk p ∧ ∀ H', Same H H' → Q (.str (keysT p)) H'
noncomputable def spShL : Sp := fun vs H Q _ => ∃ (a : Addr) (bs : List Addr) (L : List (List Int)), vs = [.ref a] ∧ H a = some (.lst (bs.map V.ref)) ∧ Pgs H bs L ∧ L.length ≤ 60 ∧ (∀ p ∈ L, PgOk p) ∧ ∀ H', Same H H' → Q (.str (layT L)) H'
section
variable {P : Program} {w : World} {K : PySem.W.Frag} {mg : Str → Option Value} {base : Heap}
theorem ok_show {f : Addr} (F : Fd K mg "show_tree" s_show_tree f) (T : Tx K mg) : ∀ n, Cal P w K mg base CX0 n "show_tree" (spShow n) := by
  intro n
  induction n with
  | zero => exact F.none (ps := ["tree"]) (fun _ _ _ _ _ _ us hl => L3.bind1 (fun _ => rfl) us hl) fun vs H Q E hh => by obtain ⟨v, t, _, _, h2, _⟩ := hh; lia
  | succ n C_show_tree =>
    refine F.cal sc_show_tree (fun _ _ _ _ _ _ us hl => L3.bind1 (fun _ => rfl) us hl) (fun vs H Q E h => ?_) (fun cdv A outer s H vs Q E hr h => ?_)
    · obtain ⟨v, t, rfl, _⟩ := h; rfl
    · obtain ⟨v, t, rfl, hv, ht, hz, hb, q⟩ := h
      refine ⟨_, (bcons (sif (tcmp rIs (qv 0) qnon (nomark _)) (bone (sret qstr)) bnil)
      (bcons (sset (i := 1) sc_show_tree.nd rfl (by first | exact Or.inl rfl | exact Or.inr rfl) (qF C_show_tree (hr.mono (by lia)) pass0 rfl (qcons (qix (xIx K) (qv 0) qint (fun _ _ => rfl)) qnil)))
      (bcons (sset (i := 2) sc_show_tree.nd rfl (by first | exact Or.inl rfl | exact Or.inr rfl) (qix (xIx K) (qv 0) qint (fun _ _ => rfl)))
      (bcons (sset (i := 3) sc_show_tree.nd rfl (by first | exact Or.inl rfl | exact Or.inr rfl) (qF C_show_tree (hr.mono (by lia)) pass0 rfl (qcons (qix (xIx K) (qv 0) qint (fun _ _ => rfl)) qnil)))
      (bone (sret (qjoined (jstr (jval (qv 1) (jstr (jval (qv 2) (jstr (jval (qv 3) (jstr jnil)))))))))))))), ?_⟩
      cases t with
      | nil =>
        cases rep_nil hv
        refine ⟨_, rfl, rfl, _, rfl, ?_⟩
        refine iteT ?_
        show Q (.str ("." : Str)) H
        rw [c_dot]; exact q
      | node l k r =>
        obtain ⟨a, vl, vr, rfl, ea, gl, gr⟩ := rep_node hv
        simp only [Tr.ht] at ht
        have hzz : l.size + r.size + 1 ≤ 60 := by simp only [Tr.size] at hz; lia
        obtain ⟨b1, b2, b3⟩ := hb.kids
        refine ⟨_, rfl, rfl, _, rfl, ?_⟩
        refine iteF ?_
        refine ⟨_, rfl, a, _, 0, _, rfl, rfl, .inr (SqT.of ea), atI_nat (j := 0) rfl, vl, l, rfl, gl, by lia, by lia, b1, ?_⟩
        refine ⟨_, rfl, a, _, 1, _, rfl, rfl, .inr (SqT.of ea), atI_nat (j := 1) rfl, ?_⟩
        refine ⟨_, rfl, a, _, 2, _, rfl, rfl, .inr (SqT.of ea), atI_nat (j := 2) rfl, vr, r, rfl, gr, by lia, by lia, b3, ?_⟩
        have l1 := sh_len b1 (by lia)
        have l2 := num_len b2
        have l3 := sh_len b3 (by lia)
        have q' : Q (.str (Str.empty ++ ⟨#[40]⟩ ++ shT l ++ ⟨#[32]⟩ ++ num k ++ ⟨#[32]⟩ ++ shT r ++ ⟨#[41]⟩)) H := by rw [sh_node]; exact q
        rw [c_op, c_sp, c_cl]
        refine ⟨big ?_, _, rfl, shT l, ⟨rfl, big (by lia)⟩, big ?_, big ?_, _, rfl, num k, ⟨rfl, num_log b2⟩, big ?_, big ?_, _, rfl, shT r, ⟨rfl, big (by lia)⟩, big ?_, big ?_, big ?_, q'⟩
        all_goals (simp only [PySem.Str.length_append, one_len, empty_len]; lia)
theorem ok_shk {f : Addr} (F : Fd K mg "show_keys" s_show_keys f) (T : Tx K mg) : Cal P w K mg base CX0 1 "show_keys" spShK := by
  refine F.cal sc_show_keys (fun _ _ _ _ _ _ us hl => L3.bind1 (fun _ => rfl) us hl) (fun vs H Q E h => ?_) (fun cdv A outer s H vs Q E hr h => ?_)
  · obtain ⟨a, p, rfl, _⟩ := h; rfl
  · obtain ⟨a, p, rfl, ea, hp, q⟩ := h
    refine ⟨_, (bone (sret (qBm K PySem.F.plainAttrs_str PySem.F.slot_str_join PySem.F.type_str_join (mJoin K) qstr (qcons (qcomp (sc := defScope s_show_keys) (NX := ["keys"]) ["key"] [none] rfl (iseq K (qv 0)) (fun _ _ _ => (gname (i := 0) (show (["key"] : List Str).Nodup by decide +kernel) rfl (by first | exact Or.inl rfl | exact Or.inr rfl))) (fun _ _ _ => csnil) (fun _ _ _ => (qTy fStr rfl T.b_str bt_str (qcons (qv 0) qnil))) rfl rfl (by decide +kernel)) qnil)))), ?_⟩
    refine ⟨rfl, _, rfl, a, rfl, .inl ⟨⟨_, SqL.of ea⟩, fun ac hac => ?_⟩⟩
    refine comp_list (xs := p.map V.int) (fun i ys σ G => ∃ z, σ = [z] ∧ Same H G ∧ G ac = some (.lst ys) ∧ ys = ((p.take i).map num).map V.str) ⟨none, rfl, same_new hac, upd_same, rfl⟩ (fun i ys σ G hh => by obtain ⟨_, _, s', _⟩ := hh; exact SqL.of (s' _ _ ea)) ?_ ?_
    · rintro i ys y σ G hy hi ⟨z, rfl, sG, aG, rfl⟩
      rw [List.getElem?_map] at hy
      obtain ⟨k, hk, rfl⟩ := Option.map_eq_some_iff.mp hy
      have hp1 := hp.1
      refine ⟨_, rfl, k, rfl, num_log (hp.2 k (List.mem_of_getElem? hk)), ?_⟩
      refine cpost aG (sizeBig (by simp; lia)) hi ?_
      exact ⟨_, rfl, same_upd sG hac, upd_same, by rw [List.take_add_one, hk, List.map_append, List.map_append]; rfl⟩
    · rintro ys σ G ⟨z, rfl, sG, aG, rfl⟩
      rw [List.length_map, List.take_length] at aG
      refine ⟨_, ac, p.map num, rfl, rfl, SqL.of aG, ?_, ?_⟩
      · rw [sp_is]; exact keys_ok hp
      · rw [sp_is]; exact q G sG
theorem ok_shl {f : Addr} (F : Fd K mg "show_layout" s_show_layout f) (T : Tx K mg) (C_show_keys : Cal P w K mg base CX0 1 "show_keys" spShK) : Cal P w K mg base CX0 2 "show_layout" spShL := by
  refine F.cal sc_show_layout (fun _ _ _ _ _ _ us hl => L3.bind1 (fun _ => rfl) us hl) (fun vs H Q E h => ?_) (fun cdv A outer s H vs Q E hr h => ?_)
  · obtain ⟨a, bs, L, rfl, _⟩ := h; rfl
  · obtain ⟨a, bs, L, rfl, ea, hg, hl, hp, q⟩ := h
    have hgl := hg.len
    refine ⟨_, (bone (sret (qBm K PySem.F.plainAttrs_str PySem.F.slot_str_join PySem.F.type_str_join (mJoin K) qstr (qcons (qcomp (sc := defScope s_show_layout) (NX := ["layout"]) ["page"] [none] rfl (iseq K (qv 0)) (fun _ _ _ => (gname (i := 0) (show (["page"] : List Str).Nodup by decide +kernel) rfl (by first | exact Or.inl rfl | exact Or.inr rfl))) (fun _ _ _ => csnil) (fun _ _ _ => (qF C_show_keys (hr.mono (by lia)) pass0 rfl (qcons (qv 0) qnil))) rfl rfl (by decide +kernel)) qnil)))), ?_⟩
    refine ⟨rfl, _, rfl, a, rfl, .inl ⟨⟨_, SqL.of ea⟩, fun ac hac => ?_⟩⟩
    refine comp_list (xs := bs.map V.ref) (fun i ys σ G => ∃ z, σ = [z] ∧ Same H G ∧ G ac = some (.lst ys) ∧ ys = ((L.take i).map keysT).map V.str) ⟨none, rfl, same_new hac, upd_same, rfl⟩ (fun i ys σ G hh => by obtain ⟨_, _, s', _⟩ := hh; exact SqL.of (s' _ _ ea)) ?_ ?_
    · rintro i ys y σ G hy hi ⟨z, rfl, sG, aG, rfl⟩
      rw [List.getElem?_map] at hy
      obtain ⟨b, hb, rfl⟩ := Option.map_eq_some_iff.mp hy
      obtain ⟨p, hpi, eb⟩ := hg.at hb
      refine ⟨_, rfl, b, p, rfl, sG _ _ eb, hp p (List.mem_of_getElem? hpi), fun G2 s2 => ?_⟩
      refine cpost (s2 _ _ aG) (sizeBig (by simp; lia)) hi ?_
      exact ⟨_, rfl, same_upd (sG.trans s2) hac, upd_same, by rw [List.take_add_one, hpi, List.map_append, List.map_append]; rfl⟩
    · rintro ys σ G ⟨z, rfl, sG, aG, rfl⟩
      rw [List.length_map, hgl, List.take_length] at aG
      refine ⟨_, ac, L.map keysT, rfl, rfl, SqL.of aG, ?_, ?_⟩
      · rw [bar_is]; exact lay_ok hl hp
      · rw [bar_is]; exact q G sG
end
end K48
namespace L3
open PySem L2
section
variable {X : Cx}
theorem rNotInS : ROp X (compareOp .NotIn) (fun x y H Q => ∃ i j, x = .str i ∧ y = .str j ∧ Q (.bl (!(!(Builtin.Str.occurrences j i 0 j.length 1).isEmpty))) H) := .mk op_notIn_str
theorem xIxS : RIx X rIxS := .mk ix_str
end
end L3
namespace K48
open PySem L2 L3 PySem.NumText
theorem slice_first (x : Str) : ls (PySem.StrLaws.sliceText x none (some 1)) = (ls x).take 1 := by
  by_cases h : 1 ≤ (ls x).length
  · rw [PySem.StrLaws.sliceText_to ⟨by decide, by show (1 : Int) ≤ ((ls x).length : Int); lia⟩]
    show (((ls x).drop 0).take _).toArray.toList = _
    rw [List.drop_zero]; rfl
  · have h0 : ls x = [] := List.length_eq_zero_iff.mp (by lia)
    have hc : ∀ i : Nat, x.cps[i]? = none := fun i => by
      have : x.cps.size = 0 := by have := congrArg List.length h0; simpa using this
      exact Array.getElem?_eq_none (by lia)
    unfold PySem.StrLaws.sliceText
    split
    · rw [h0]; rfl
    · rw [h0]
      show (List.filterMap (fun i => x.cps[i]?) _).toArray.toList = _
      rw [show (fun i : Nat => x.cps[i]?) = fun _ => none from funext hc]
      simp
theorem c_zero : ("0" : Str) = ⟨#[48]⟩ := by decide
noncomputable def spIsK : Sp := fun vs H Q _ => ∃ x : Str, vs = [.str x] ∧ T48 x ∧ ∀ (b : Bool) H', Same H H' → (b = true ↔ KeyW x) → Q (.bl b) H'
section
variable {P : Program} {w : World} {K : PySem.W.Frag} {mg : Str → Option Value} {base : Heap}
theorem ok_isk {f : Addr} (F : Fd K mg "_law_is_key" s_law_is_key f) (T : Tx K mg) : Cal P w K mg base CX0 1 "_law_is_key" spIsK := by
  refine F.cal sc_law_is_key (fun _ _ _ _ _ _ us hl => L3.bind1 (fun _ => rfl) us hl) (fun vs H Q E h => ?_) (fun cdv A outer s H vs Q E hr h => ?_)
  · obtain ⟨x, rfl, _⟩ := h; rfl
  · obtain ⟨x, rfl, ht, q⟩ := h
    have hl := ht.1
    have hul := ht.un.1
    have qF : ∀ G, Same H G → ¬ figB (unS x) = true → Q (.bl false) G := fun G sG hf => q false G sG ⟨(fun z => nomatch z), fun z => absurd (key_fig z) hf⟩
    refine ⟨_, (bcons (sset (i := 1) sc_law_is_key.nd rfl (by first | exact Or.inl rfl | exact Or.inr rfl) (qv 0))
      (bcons (sif (tcmp (rEqq hr) (qslice xSlS (qv 0) onone (osome qint)) qstr (nomark _)) (bone (sset (i := 1) sc_law_is_key.nd rfl (by first | exact Or.inl rfl | exact Or.inr rfl) (qslice xSlS (qv 0) (osome qint) onone))) bnil)
      (bcons (sif (QW.tst (wor (tcmp (rEqq hr) (qB fLenS rfl T.b_len bt_len (qcons (qv 1) qnil)) qint (nomark _)) (wor (tcmp rGt (qB fLenS rfl T.b_len bt_len (qcons (qv 1) qnil)) qint (nomark _)) (wor1 (tcmp rGt (qB (fLen K) rfl T.b_len bt_len (qcons (qcomp (sc := defScope s_law_is_key) (NX := ["_law_word_here", "_law_figures"]) ["_law_sign"] [none] rfl (istr (qv 1)) (fun _ _ _ => (gname (i := 0) (show (["_law_sign"] : List Str).Nodup by decide +kernel) rfl (by first | exact Or.inl rfl | exact Or.inr rfl))) (fun _ _ _ => (csone (tcmp rNotInS (qv 0) qstr (by with_unfolding_all rfl)))) (fun _ _ _ => (qv 0)) rfl rfl (by decide +kernel)) qnil)) qint (nomark _)))))) (bone (sret qbl)) bnil)
      (bone (sret (qor K (qcmp (rEqq hr) (qv 0) qstr (nomark _)) (qone (qcmp (rNeq hr) (qix xIxS (qv 1) qint (fun _ _ => rfl)) qstr (nomark _))))))))), ?_⟩
    refine ⟨_, rfl, ?_⟩
    apply join (fun σ' G => σ' = [some (.str x), some (.str (unS x))] ∧ G = H)
    case h2 =>
      intro hj
      have hsf := slice_first x
      have hsl : (PySem.StrLaws.sliceText x none (some 1)).length ≤ 1 := by rw [ls_len, hsf, List.length_take]; lia
      refine ⟨_, rfl, _, rfl, x, rfl, big (by lia), _, rfl, ?_⟩
      rw [minus_is]
      by_cases h : (ls x)[0]? = some 45
      · have e : PySem.StrLaws.sliceText x none (some 1) = minus := ls_ext (by
          rw [hsf]
          cases e : ls x with
          | nil => rw [e] at h; cases h
          | cons a r => rw [e] at h; cases h; rfl)
        rw [decide_eq_true e]
        refine iteT ?_
        refine ⟨_, rfl, _, rfl, x, rfl, ?_⟩
        rw [unS_cut h]
        exact ⟨big (by lia), hj _ _ ⟨rfl, rfl⟩⟩
      · have e : ¬ PySem.StrLaws.sliceText x none (some 1) = minus := fun z => h (by
          have z := congrArg ls z
          rw [hsf] at z
          cases e : ls x with
          | nil => rw [e] at z; cases z
          | cons a r => rw [e] at z; cases z; rfl)
        rw [decide_eq_false e]
        refine iteF ?_
        have e : unS x = x := by unfold unS; rw [if_neg h]
        exact hj _ _ ⟨by rw [e]; rfl, rfl⟩
    rintro σ' G ⟨rfl, rfl⟩
    refine ⟨_, rfl, unS x, rfl, big (by lia), _, rfl, ?_⟩
    by_cases h0 : (unS x).length = 0
    · rw [decide_eq_true (show (((unS x).length : Nat) : Int) = 0 by lia)]
      refine iteT ?_
      refine iteT ?_
      exact qF G (Same.refl _) fun z => by have := (figB_dig z).1; lia
    rw [decide_eq_false (show ¬ (((unS x).length : Nat) : Int) = 0 by lia)]
    refine iteF ?_
    refine ⟨_, rfl, unS x, rfl, big (by lia), _, _, rfl, rfl, _, rfl, ?_⟩
    by_cases h6 : 60 < (unS x).length
    · rw [decide_eq_true (show (60 : Int) < (((unS x).length : Nat) : Int) by lia)]
      refine iteT ?_
      refine iteT ?_
      exact qF G (Same.refl _) fun z => by have := (figB_dig z).1; lia
    rw [decide_eq_false (show ¬ (60 : Int) < (((unS x).length : Nat) : Int) by lia)]
    refine iteF ?_
    have hsz : (unS x).cps.size = (unS x).length := rfl
    refine ⟨_, rfl, unS x, rfl, ascii_of ht.un.2, fun ac hac => ?_⟩
    refine comp_str (fun i ys σ G' => ∃ z, σ = [z] ∧ Same G G' ∧ G' ac = some (.lst ys) ∧ ys = (((ls (unS x)).take i).filter fun c => !dg c).map fun c => V.str ⟨#[c]⟩) ⟨none, rfl, same_new hac, upd_same, rfl⟩ ?_ ?_
    · rintro i ys c σ G' hc hi ⟨z, rfl, sG, aG, rfl⟩
      have hcm : (ls (unS x))[i]? = some c := by rw [← hc]; simp
      have hfl := List.length_filter_le (fun c => !dg c) ((ls (unS x)).take i)
      rw [List.length_take] at hfl
      refine ⟨_, rfl, _, _, rfl, rfl, _, rfl, ?_⟩
      rw [show (("0123456789" : Str)) = figures from rfl, in_fig]
      have htk : ((ls (unS x)).take (i + 1)).filter (fun c => !dg c) = ((ls (unS x)).take i).filter (fun c => !dg c) ++ (if dg c = true then [] else [c]) := by
        rw [List.take_add_one, hcm, List.filter_append]
        congr 1
        by_cases h : dg c = true <;> simp [h]
      by_cases h : dg c = true
      · rw [if_pos h, List.append_nil] at htk
        rw [h]
        refine iteF ?_
        refine cskip hi (ys := (((ls (unS x)).take i).filter fun c => !dg c).map fun c => V.str ⟨#[c]⟩) ?_
        exact ⟨_, rfl, sG, aG, by rw [htk]⟩
      · rw [if_neg h] at htk
        rw [show dg c = false by simpa using h]
        refine iteT ?_
        refine ⟨_, rfl, ?_⟩
        refine cpost aG (sizeBig (by rw [List.length_map]; lia)) hi ?_
        exact ⟨_, rfl, same_upd sG hac, upd_same, by rw [htk, List.map_append]; rfl⟩
    rintro ys σ G' ⟨z, rfl, sG, aG, rfl⟩
    rw [List.take_of_length_le (by rw [← ls_len, hsz]; exact Nat.le_refl _)] at aG
    refine ⟨ac, _, rfl, .inl (SqL.of aG), _, _, rfl, rfl, _, rfl, ?_⟩
    rw [List.length_map]
    by_cases hf : figB (unS x) = true
    · have hz : ((ls (unS x)).filter fun c => !dg c) = [] := List.filter_eq_nil_iff.mpr fun c hc => by
        have := decide_eq_true ((figB_dig hf).2 c hc)
        have : dg c = true := this
        simp [this]
      rw [hz, decide_eq_false (show ¬ (0 : Int) < ((([] : List Nat).length : Nat) : Int) by decide)]
      refine iteF ?_
      obtain ⟨v, _, _, _, hk⟩ := key_val hf
      rw [c_zero]
      refine ⟨_, rfl, ?_⟩
      by_cases hx : x = ⟨#[48]⟩
      · refine ⟨_, rfl, ?_⟩
        rw [decide_eq_true hx]
        refine iteT ?_
        exact q true G' sG ⟨fun _ => hk.mpr (.inl hx), fun _ => rfl⟩
      · refine ⟨_, rfl, ?_⟩
        rw [decide_eq_false hx]
        refine iteF ?_
        have hne : 0 < (ls (unS x)).length := by rw [← ls_len]; lia
        refine ⟨_, rfl, unS x, 0, (ls (unS x))[0], rfl, rfl, big (by lia), atI_nat (j := 0) (List.getElem?_eq_getElem hne), ?_⟩
        show Q (.bl (!decide ((⟨#[(ls (unS x))[0]]⟩ : Str) = ⟨#[48]⟩))) G'
        refine q _ G' sG ?_
        have hg : (ls (unS x))[0]? = some (ls (unS x))[0] := List.getElem?_eq_getElem hne
        rw [hk, hg]
        constructor
        · intro z
          right
          intro y
          rw [Option.some.inj y] at z
          simp at z
        · intro z
          rcases z with z | z
          · exact absurd z hx
          · have : ¬ (⟨#[(ls (unS x))[0]]⟩ : Str) = ⟨#[48]⟩ := fun y => z (by
              have := congrArg ls y
              exact congrArg some (List.cons.inj this).1)
            rw [decide_eq_false this]; rfl
    · have hz : 0 < ((ls (unS x)).filter fun c => !dg c).length := by
        refine Nat.pos_of_ne_zero fun z => hf ?_
        have z := List.length_eq_zero_iff.mp z
        unfold figB
        rw [decide_eq_true (show 1 ≤ (unS x).length ∧ (unS x).length ≤ 60 by lia), Bool.true_and, List.all_eq_true]
        intro c hc
        have := List.filter_eq_nil_iff.mp z c hc
        simpa using this
      rw [decide_eq_true (show (0 : Int) < ((((ls (unS x)).filter fun c => !dg c).length : Nat) : Int) by lia)]
      refine iteT ?_
      exact qF G' sG hf
end
end K48
namespace K48
open PySem L2 L3 PySem.NumText
theorem c_emp : ("" : Str) = Str.empty := by decide
theorem emp_iff (x : Str) : x = Str.empty ↔ x.length = 0 := ⟨fun z => by rw [z]; rfl, fun z => ls_ext (by
  rw [ls_len] at z
  rw [List.length_eq_zero_iff.mp z]; rfl)⟩
noncomputable def spLof : Sp := fun vs H Q _ => ∃ x : Str, vs = [.str x] ∧ T48 x ∧ (∀ L, OfL x L → ∀ r lr bs H', Same H H' → H' r = some (.lst [.ref lr]) → H' lr = some (.lst (bs.map V.ref)) → Pgs H' bs L → Q (.ref r) H') ∧
  ((¬ ∃ L, OfL x L) → ∀ r H', Same H H' → H' r = some (.lst []) → Q (.ref r) H')
inductive LofI (x : Str) (la : Addr) (H2 : Hp) (i : Nat) (σ : L2.St) (G : Hp) : Prop
  | mk (z2 z3 : Option V) (bs : List Addr) (L : List (List Int)) (e : σ = [some (.str x), some (.ref la), z2, z3]) (sG : Same (rm la H2) G) (aG : G la = some (.lst (bs.map V.ref))) (pG : Pgs (rm la G) bs L) (hB : ∀ p ∈ L, ∀ k ∈ p, Bd k) (htk : ((layW x).take i).map pgW = L.map (List.map num)) : LofI x la H2 i σ G
theorem LofI.same {x : Str} {la : Addr} {H2 : Hp} {i : Nat} {σ : L2.St} {G : Hp} (h : LofI x la H2 i σ G) : Same (rm la H2) G := by cases h; assumption
section
variable {P : Program} {w : World} {K : PySem.W.Frag} {mg : Str → Option Value} {base : Heap}
theorem ok_lof {f : Addr} (F : Fd K mg "_law_layout_of" s_law_layout_of f) (T : Tx K mg) (C_law_is_key : Cal P w K mg base CX0 1 "_law_is_key" spIsK) : Cal P w K mg base CX0 2 "_law_layout_of" spLof := by
  refine F.cal sc_law_layout_of (fun _ _ _ _ _ _ us hl => L3.bind1 (fun _ => rfl) us hl) (fun vs H Q E h => ?_) (fun cdv A outer s H vs Q E hr h => ?_)
  · obtain ⟨x, rfl, _⟩ := h; rfl
  · obtain ⟨x, rfl, ht, q, qN⟩ := h
    have hl := ht.1
    refine ⟨_, (bcons (sif (tcmp (rEqq hr) (qv 0) qstr (nomark _)) (bone (sret (qlst (qcons (qlst qnil) qnil)))) bnil)
      (bcons (sset (i := 1) sc_law_layout_of.nd rfl (by first | exact Or.inl rfl | exact Or.inr rfl) (qlst qnil))
      (bcons (sfor PassesOwn.never rfl (iseq K (qBm K PySem.F.plainAttrs_str PySem.F.slot_str_split PySem.F.type_str_split mSplit (qv 0) (qcons qstr qnil))) (gname (i := 2) sc_law_layout_of.nd rfl (by first | exact Or.inl rfl | exact Or.inr rfl))
        (bcons (sset (i := 3) sc_law_layout_of.nd rfl (by first | exact Or.inl rfl | exact Or.inr rfl) (qBm K PySem.F.plainAttrs_str PySem.F.slot_str_split PySem.F.type_str_split mSplit (qv 2) (qcons qstr qnil)))
        (bcons (sif (tcmp (rEqq hr) (qv 2) qstr (nomark _)) (bone (sset (i := 3) sc_law_layout_of.nd rfl (by first | exact Or.inl rfl | exact Or.inr rfl) (qlst qnil))) bnil)
        (bcons (sif (tcmp (rNeNil hr) (qcomp (sc := defScope s_law_layout_of) (NX := ["_law_text", "_law_layout", "_law_part", "_law_words"]) ["_law_word_here"] [none] rfl (iseq K (qv 3)) (fun _ _ _ => (gname (i := 0) (show (["_law_word_here"] : List Str).Nodup by decide +kernel) rfl (by first | exact Or.inl rfl | exact Or.inr rfl))) (fun _ _ _ => (csone (tnot (ttru K (qF C_law_is_key (hr.mono (by lia)) pass0 rfl (qcons (qv 0) qnil)) (fun _ => rfl))))) (fun _ _ _ => (qv 0)) rfl rfl (by decide +kernel)) (qlst qnil) (nomark _)) (bone (sret (qlst qnil))) bnil)
        (bone (sexpr (qBm K PySem.F.plainAttrs_list PySem.F.slot_list_append PySem.F.type_list_append mAppend (qv 1) (qcons (qcomp (sc := defScope s_law_layout_of) (NX := ["_law_text", "_law_layout", "_law_part", "_law_words"]) ["_law_word_here"] [none] rfl (iseq K (qv 3)) (fun _ _ _ => (gname (i := 0) (show (["_law_word_here"] : List Str).Nodup by decide +kernel) rfl (by first | exact Or.inl rfl | exact Or.inr rfl))) (fun _ _ _ => csnil) (fun _ _ _ => (qTy fIntT rfl T.b_int bt_int (qcons (qv 0) qnil))) rfl rfl (by decide +kernel)) qnil))))))))
      (bcons (sif (QW.tst (wor (tcmp rGt (qB (fLen K) rfl T.b_len bt_len (qcons (qv 1) qnil)) qint (nomark _)) (wor1 (tcmp rGt (qB (fSum K) rfl T.b_sum bt_sum (qcons (qcomp (sc := defScope s_law_layout_of) (NX := ["_law_text", "_law_layout", "_law_part", "_law_words"]) ["_law_page"] [none] rfl (iseq K (qv 1)) (fun _ _ _ => (gname (i := 0) (show (["_law_page"] : List Str).Nodup by decide +kernel) rfl (by first | exact Or.inl rfl | exact Or.inr rfl))) (fun _ _ _ => csnil) (fun _ _ _ => (qB (fLen K) rfl T.b_len bt_len (qcons (qv 0) qnil))) rfl rfl (by decide +kernel)) qnil)) qint (nomark _))))) (bone (sret (qlst qnil))) bnil)
      (bone (sret (qlst (qcons (qv 1) qnil)))))))), ?_⟩
    refine ⟨_, rfl, _, rfl, ?_⟩
    rw [c_emp]
    by_cases hx : x = Str.empty
    · rw [decide_eq_true hx]
      refine iteT ?_
      have hw : layW x = [] := by unfold layW; rw [if_pos ((emp_iff x).mp hx)]
      refine ⟨(show 0 ≤ sizeLine by decide), fun lr H1 n1 s1 e1 _ => ?_⟩
      refine ⟨(show 1 ≤ sizeLine by decide), fun r H2 n2 s2 e2 _ => ?_⟩
      exact q [] ⟨(fun p hp => nomatch hp), by rw [hw]; rfl, by decide, by decide⟩ r lr [] H2 (s1.trans s2) e2 (s2 _ _ e1) trivial
    rw [decide_eq_false hx]
    refine iteF ?_
    have h0 : ¬ x.length = 0 := fun z => hx ((emp_iff x).mpr z)
    have ep : layW x = Txt.split x ⟨#[124]⟩ := by unfold layW; rw [if_neg h0]
    have hsl := split_len x 124
    refine ⟨(show 0 ≤ sizeLine by decide), fun la H1 n1 s1 e1 _ => ?_⟩
    refine ⟨_, rfl, rfl, x, _, rfl, rfl, rfl, big (by lia), ?_, ?_⟩
    · rw [c_bar]; exact big (by lia)
    rw [c_bar, ← ep]
    rw [← ep] at hsl
    refine fun l1 H2 n2 s2 e2 _ => ?_
    have e1' := s2 _ _ e1
    have hla : l1 ≠ la := fun z => by rw [z, e1] at n2; cases n2
    have toH : ∀ {G : Hp}, Same (rm la H2) G → Same H G := fun s b o hb => s _ _ (by rw [rm_ne (ne_of_none hb n1)]; exact (s1.trans s2) _ _ hb)
    refine ⟨l1, rfl, .inl ⟨⟨_, SqL.of e2⟩, for_listN (xs := (layW x).map V.str) (LofI x la H2)
      ⟨none, none, [], [], rfl, rm_same, e1', trivial, (fun p hp => nomatch hp), rfl⟩ (fun i σ G _ h => SqL.of (rm_look h.same e2 hla)) ?_ ?_⟩⟩
    · rintro N B R i yv σ G hy hN _ hR ⟨z2, z3, bs, L, rfl, sG, aG, pG, hB, htk⟩
      rw [List.getElem?_map] at hy
      obtain ⟨y, hv, rfl⟩ := Option.map_eq_some_iff.mp hy
      have hvm : y ∈ layW x := List.mem_of_getElem? hv
      have hty := split_t ht 124 (by rw [← ep]; exact hvm)
      have hyl := hty.1
      have hys := split_len y 32
      have hbl := pG.len
      have hpl := congrArg List.length htk
      rw [List.length_map, List.length_map, List.length_take] at hpl
      refine ⟨_, rfl, rfl, y, _, rfl, rfl, rfl, big (by lia), ?_, ?_⟩
      · rw [c_sp]; exact big (by lia)
      rw [c_sp]
      refine fun lw G1 n3 s3 e3 _ => ?_
      have hpw : (pgW y).length ≤ 100001 := by
        unfold pgW
        split
        · simp
        · lia
      apply join (fun σ' G' => ∃ lw' : Addr, σ' = [some (.str x), some (.ref la), some (.str y), some (.ref lw')] ∧ Same G G' ∧ G' lw' = some (.lst ((pgW y).map V.str)))
      case h2 =>
        intro hj
        refine ⟨_, rfl, _, rfl, ?_⟩
        by_cases hye : y = Str.empty
        · rw [decide_eq_true hye]
          refine iteT ?_
          refine ⟨(show 0 ≤ sizeLine by decide), fun lw2 G2 n4 s4 e4 _ => ?_⟩
          refine hj _ _ ⟨lw2, rfl, s3.trans s4, ?_⟩
          rw [e4]
          unfold pgW
          rw [if_pos ((emp_iff y).mp hye)]; rfl
        · rw [decide_eq_false hye]
          refine iteF ?_
          refine hj _ _ ⟨lw, rfl, s3, ?_⟩
          rw [e3]
          unfold pgW
          rw [if_neg (fun z => hye ((emp_iff y).mpr z))]
      rintro σ' G2 ⟨lw', rfl, s4, e4⟩
      have aG2 := s4 _ _ aG
      refine ⟨_, rfl, lw', rfl, .inl ⟨⟨_, SqL.of e4⟩, fun ac hac => ?_⟩⟩
      refine comp_list (xs := (pgW y).map V.str) (fun j ys σ G' => ∃ z, σ = [z] ∧ Same G2 G' ∧ G' ac = some (.lst ys) ∧ ys.length ≤ j ∧ ((ys = [] ∧ ∀ u ∈ (pgW y).take j, KeyW u) ∨ (ys ≠ [] ∧ ∃ u ∈ pgW y, ¬ KeyW u))) ⟨none, rfl, same_new hac, upd_same, Nat.le_refl _, .inl ⟨rfl, fun u hu => by simp at hu⟩⟩ (fun j ys σ G' hh => by obtain ⟨_, _, s', _⟩ := hh; exact SqL.of (s' _ _ e4)) ?_ ?_
      · rintro j ys uv σ G' hu0 hj ⟨z, rfl, sG', aG', hyl', hys'⟩
        rw [List.getElem?_map] at hu0
        obtain ⟨u, hu, rfl⟩ := Option.map_eq_some_iff.mp hu0
        have hum : u ∈ pgW y := List.mem_of_getElem? hu
        have hjl := (List.getElem?_eq_some_iff.mp hu).1
        have htu : T48 u := by
          unfold pgW at hum
          split at hum
          · cases hum
          · exact split_t hty 32 hum
        refine ⟨_, rfl, u, rfl, htu, fun b G3 s5 hb => ?_⟩
        refine ⟨_, rfl, ?_⟩
        cases b with
        | true =>
          refine iteF ?_
          refine cskip hj (ys := ys) ?_
          refine ⟨_, rfl, sG'.trans s5, s5 _ _ aG', by lia, ?_⟩
          rcases hys' with ⟨h1, h2⟩ | h
          · refine .inl ⟨h1, fun u' hu' => ?_⟩
            rw [List.take_add_one, hu] at hu'
            rcases List.mem_append.mp hu' with h | h
            · exact h2 u' h
            · rw [Option.toList_some, List.mem_singleton] at h; rw [h]; exact hb.mp rfl
          · exact .inr h
        | false =>
          refine iteT ?_
          refine ⟨_, rfl, ?_⟩
          refine cpost (s5 _ _ aG') (sizeHuge48 (by lia)) hj ?_
          exact ⟨_, rfl, same_upd (sG'.trans s5) hac, upd_same, by simp; lia, .inr ⟨by simp, u, hum, fun z => nomatch hb.mpr z⟩⟩
      rintro ys σ G3 ⟨z, rfl, s5, e5, _, hys'⟩
      rw [List.length_map, List.take_length] at hys'
      refine ⟨(show 0 ≤ sizeLine by decide), fun ke G4 n6 s6 e6 _ => ?_⟩
      refine ⟨ac, ke, ys, rfl, rfl, s6 _ _ e5, e6, _, rfl, ?_⟩
      have s26 := s5.trans s6
      have sG4 := sG.trans (s4.trans s26)
      rcases hys' with ⟨rfl, hk⟩ | ⟨hne, u, hu, nk⟩
      · refine iteF ?_
        have aG4 := s26 _ _ aG2
        have e44 := s26 _ _ e4
        refine ⟨_, rfl, .inl ⟨rfl, _, SqL.of aG4⟩, _, rfl, lw', rfl, .inl ⟨⟨_, SqL.of e44⟩, fun a2 ha2 => ?_⟩⟩
        have ha2l : a2 ≠ la := fun z => by rw [z, aG4] at ha2; cases ha2
        refine comp_list (xs := (pgW y).map V.str) (fun j ys σ G' => ∃ (z : Option V) (ps : List Int), σ = [z] ∧ Same G4 G' ∧ G' a2 = some (.lst ys) ∧ ys = ps.map V.int ∧ (pgW y).take j = ps.map num ∧ ∀ k ∈ ps, Bd k) ⟨none, [], rfl, same_new ha2, upd_same, rfl, rfl, fun k hk => nomatch hk⟩ (fun j ys σ G' hh => by obtain ⟨_, _, _, s', _⟩ := hh; exact SqL.of (s' _ _ e44)) ?_ ?_
        · rintro j ys uv σ G' hu0 hj ⟨z, ps, rfl, sG', aG', rfl, htj, hb⟩
          rw [List.getElem?_map] at hu0
          obtain ⟨u, hu, rfl⟩ := Option.map_eq_some_iff.mp hu0
          obtain ⟨n, bn, en⟩ := hk u (List.mem_of_getElem? hu)
          have hjl := congrArg List.length htj
          rw [List.length_take, List.length_map] at hjl
          refine ⟨_, rfl, u, n, rfl, by rw [en]; exact num_reads bn, by rw [en]; have := num_len bn; lia, ?_⟩
          refine cpost aG' (sizeHuge48 (by rw [List.length_map]; lia)) hj ?_
          refine ⟨_, ps ++ [n], rfl, same_upd sG' ha2, upd_same, by rw [List.map_append]; rfl, by rw [List.take_add_one, hu, htj, List.map_append, en]; rfl, fun k hk' => ?_⟩
          rcases List.mem_append.mp hk' with h | h
          · exact hb k h
          · rw [List.mem_singleton] at h; subst h; exact bn
        rintro ys σ G5 ⟨z, ps, rfl, s7, e7, rfl, htj, hb⟩
        rw [List.length_map, List.take_length] at htj
        have s27 := s26.trans s7
        refine ⟨la, bs.map V.ref, .ref a2, rfl, rfl, s7 _ _ aG4, sizeHuge48 (by rw [List.length_map]; lia), ?_⟩
        refine hN _ _ ⟨_, _, bs ++ [a2], L ++ [ps], rfl, same_upd (sG.trans (s4.trans s27)) rm_self, by rw [upd_same, List.map_append]; rfl, ?_, fun p' hp' => ?_, ?_⟩
        · rw [rm_upd]
          refine (pG.mono (rm_of' (s4.trans s27))).snoc ?_
          rw [rm_ne ha2l]; exact e7
        · rcases List.mem_append.mp hp' with h | h
          · exact hB p' h
          · rw [List.mem_singleton] at h; subst h; exact hb
        · rw [List.take_add_one, hv, List.map_append, htk, List.map_append]
          show _ ++ [pgW y] = _
          rw [htj]; rfl
      · rw [show (!ys.isEmpty) = true by cases ys with | nil => exact absurd rfl hne | cons _ _ => rfl]
        refine iteT ?_
        refine ⟨(show 0 ≤ sizeLine by decide), fun r G5 n7 s7 e7 _ => ?_⟩
        refine hR _ _ (qN (fun ⟨L', o⟩ => ?_) r G5 ((toH sG4).trans s7) e7)
        have h1 : pgW y ∈ (layW x).map pgW := List.mem_map_of_mem hvm
        rw [o.2.1] at h1
        obtain ⟨p', hp', e'⟩ := List.mem_map.mp h1
        rw [← e'] at hu
        obtain ⟨k, hk, rfl⟩ := List.mem_map.mp hu
        exact nk (num_key (o.1 p' hp' k hk))
    · rintro σ G ⟨z2, z3, bs, L, rfl, sG, aG, pG, hB, hL⟩
      rw [List.length_map, List.take_length] at hL
      have hbl := pG.len
      have pg : Pgs G bs L := pG.mono rm_same
      have hH := toH sG
      have same : ∀ L', OfL x L' → L'.length = L.length ∧ L'.map List.length = L.map List.length := fun L' o => by
        have e := o.2.1.symm.trans hL
        have e1 := congrArg List.length e
        have e2 := congrArg (List.map List.length) e
        rw [List.length_map, List.length_map] at e1
        rw [List.map_map, List.map_map] at e2
        refine ⟨e1, ?_⟩
        have f : (List.length ∘ List.map num) = (List.length : List Int → Nat) := by funext p; simp
        rw [f] at e2; exact e2
      refine ⟨_, rfl, la, _, rfl, .inl (SqL.of aG), _, _, rfl, rfl, _, rfl, ?_⟩
      rw [List.length_map]
      by_cases h60 : bs.length ≤ 60
      · rw [decide_eq_false (show ¬ (60 : Int) < ((bs.length : Nat) : Int) by lia)]
        refine iteF ?_
        refine ⟨_, rfl, la, rfl, .inl ⟨⟨_, SqL.of aG⟩, fun ac hac => ?_⟩⟩
        refine comp_list (xs := bs.map V.ref) (fun i ys σ G' => ∃ z, σ = [z] ∧ Same G G' ∧ G' ac = some (.lst ys) ∧ ys = (((L.take i).map List.length).map fun n : Nat => (n : Int)).map V.int) ⟨none, rfl, same_new hac, upd_same, rfl⟩ (fun i ys σ G hh => by obtain ⟨_, _, s', _⟩ := hh; exact SqL.of (s' _ _ aG)) ?_ ?_
        · rintro i ys y σ G' hy hi ⟨z, rfl, sG', aG', rfl⟩
          rw [List.getElem?_map] at hy
          obtain ⟨b, hb', rfl⟩ := Option.map_eq_some_iff.mp hy
          obtain ⟨p, hpi, eb⟩ := pg.at hb'
          refine ⟨_, rfl, b, _, rfl, .inl (SqL.of (sG' _ _ eb)), ?_⟩
          refine cpost aG' (sizeBig (by simp; lia)) hi ?_
          exact ⟨_, rfl, same_upd sG' hac, upd_same, by rw [List.length_map, List.take_add_one, hpi, List.map_append, List.map_append, List.map_append]; rfl⟩
        · rintro ys σ G' ⟨z, rfl, sG', aG', rfl⟩
          rw [List.length_map, hbl, List.take_length] at aG'
          refine ⟨ac, _, rfl, SqL.of aG', _, _, rfl, rfl, _, rfl, ?_⟩
          rw [sum_cast]
          by_cases hs : (L.map List.length).sum ≤ 60
          · rw [decide_eq_false (show ¬ (60 : Int) < (((L.map List.length).sum : Nat) : Int) by lia)]
            refine iteF ?_
            refine ⟨_, rfl, (show 1 ≤ sizeLine by decide), fun r G5 n5 s5 e5 _ => ?_⟩
            have s05 := sG'.trans s5
            exact q L ⟨hB, hL, by lia, hs⟩ r la bs G5 (hH.trans s05) e5 (s05 _ _ aG) (pg.mono s05)
          · rw [decide_eq_true (show (60 : Int) < (((L.map List.length).sum : Nat) : Int) by lia)]
            refine iteT ?_
            exact ⟨(show 0 ≤ sizeLine by decide), fun r G5 n5 s5 e5 _ => qN (fun ⟨L', o⟩ => hs (by rw [← (same L' o).2]; exact o.2.2.2)) r G5 (hH.trans (sG'.trans s5)) e5⟩
      · rw [decide_eq_true (show (60 : Int) < ((bs.length : Nat) : Int) by lia)]
        refine iteT ?_
        refine iteT ?_
        exact ⟨(show 0 ≤ sizeLine by decide), fun r G5 n5 s5 e5 _ => qN (fun ⟨L', o⟩ => h60 (by have := (same L' o).1; have := o.2.2.1; lia)) r G5 (hH.trans s5) e5⟩
end
end K48
namespace K48
open PySem L2 L3 PySem.NumText
structure Er (K : PySem.W.Frag) (mg : Str → Option Value) (cL cX cF cM cW cT cN cH : Addr) : Prop where
  eL : ErrK K mg "LeafError" cL
  eX : ErrK K mg "NoText" cX
  eF : mg "Full" = some (.ref cF)
  eM : mg "NoRoom" = some (.ref cM)
  eW : mg "NoRow" = some (.ref cW)
  eT : mg "NoTree" = some (.ref cT)
  eN : mg "NotThere" = some (.ref cN)
  eH : mg "There" = some (.ref cH)
  ex : PySem.W.exmOne K (.ref cX) (.ref cL) = some true
  k1 : PySem.W.kitAny K (.ref cX) (([cF, cM, cW, cT, cN, cH] : List Addr).map Value.ref) = some false
  k2 : PySem.W.kitOne K (.ref cX) (.ref cX) = some true
  k3 : PySem.W.kitOne K (.ref cX) (.type "ValueError") = some true
  fc : ExcF K cX
structure At (mg : Str → Option Value) (x : Str) (C : Addr) : Prop where
  at_ : mg x = some (.ref C)
noncomputable def Bad (d : D) (lay : Bool) : Prop := (∀ x, d ≠ .str x) ∨ ∃ x, d = .str x ∧ T48 x ∧ if lay = true then ¬ ∃ L, OfL x L else ¬ ∃ t, OfT x t
noncomputable def spRef : Sp := fun vs H Q _ => ∃ (v : V) (d : D) (lay : Bool), vs = [v, .bl lay] ∧ Rep H v d ∧ Bad d lay ∧ ∀ H', Same H H' → Q (.bl true) H'
section
variable {P : Program} {w : World} {K : PySem.W.Frag} {mg : Str → Option Value} {base : Heap}
theorem ok_ref {f cL cX cF cM cW cT cN cH : Addr} (F : Fd K mg "_law_refused" s_law_refused f) (T : Tx K mg) (R : Er K mg cL cX cF cM cW cT cN cH) (C_read_layout : Cal P w K mg base (CXE P w) 4 "read_layout" (spLyE cX)) (C_read_tree : Cal P w K mg base (CXE P w) 82 "read_tree" (spRtE cX)) : Cal P w K mg base CX0 83 "_law_refused" spRef := by
  have R_LeafError := R.eL
  have R_NoText := R.eX
  have R_Full : At mg "Full" cF := ⟨R.eF⟩
  have R_NoRoom : At mg "NoRoom" cM := ⟨R.eM⟩
  have R_NoRow : At mg "NoRow" cW := ⟨R.eW⟩
  have R_NoTree : At mg "NoTree" cT := ⟨R.eT⟩
  have R_NotThere : At mg "NotThere" cN := ⟨R.eN⟩
  have R_There : At mg "There" cH := ⟨R.eH⟩
  refine F.cal sc_law_refused (fun _ _ _ _ _ _ us hl => L3.bind2 (fun _ _ => rfl) us hl) (fun vs H Q E h => ?_) (fun cdv A outer s H vs Q E hr h => ?_)
  · obtain ⟨v, d, lay, rfl, _⟩ := h; rfl
  · obtain ⟨v, d, lay, rfl, hv, hb, q⟩ := h
    refine ⟨_, (bcons (sset (i := 2) sc_law_refused.nd rfl (by first | exact Or.inl rfl | exact Or.inr rfl) qnon)
      (bcons (stry (i := 3) K (xif (ttru K (qv 1) (fun _ => rfl)) (xcall C_read_layout (hr.mono (by lia)) rfl (qcons (qv 0) qnil)) (xcall C_read_tree (hr.mono (by lia)) rfl (qcons (qv 0) qnil))) rfl R_LeafError.at_ sc_law_refused.nd rfl rfl rfl rfl (fun _ => (bone (sset (i := 2) sc_law_refused.nd rfl (by first | exact Or.inl rfl | exact Or.inr rfl) (qv 3)))))
      (bcons (sif (ttru K (qB (fIsE K) rfl T.b_isinstance bt_isinstance (qcons (qv 2) (qcons (qtup (qcons (qcl rfl R_Full.at_) (qcons (qcl rfl R_NoRoom.at_) (qcons (qcl rfl R_NoRow.at_) (qcons (qcl rfl R_NoTree.at_) (qcons (qcl rfl R_NotThere.at_) (qcons (qcl rfl R_There.at_) qnil))))))) qnil))) (fun _ => rfl)) (bone (sret qbl)) bnil)
      (bone (sret (qand K (qB (fIsE K) rfl T.b_isinstance bt_isinstance (qcons (qv 2) (qcons (qcl rfl R_NoText.at_) qnil))) (qone (qB (fIsE K) rfl T.b_isinstance bt_isinstance (qcons (qv 2) (qcons (qty rfl T.b_ValueError bt_ValueError) qnil)))))))))), ?_⟩
    refine ⟨_, rfl, _, rfl, ?_⟩
    cases lay with
    | true =>
      refine iteT ?_
      refine ⟨_, rfl, v, d, rfl, hv, ?_⟩
      rcases hb with hd | ⟨x, rfl, ht, no⟩
      case' inl => refine .inr ⟨hd, ?_⟩
      case' inr =>
        rw [if_pos rfl] at no
        refine .inl ⟨x, rfl, ht, fun L o => absurd ⟨L, o⟩ no, fun _ => ?_⟩
      all_goals
        intro H0 s0
        refine ⟨R.ex, fun ea C e n => ?_⟩
        cases e
        refine ⟨_, rfl, ?_⟩
        have s1 : Same H0 (upd H0 ea (excE ea cX)) := same_new n
        have e1 : upd H0 ea (excE ea cX) ea = some (excE ea cX) := upd_same
        generalize upd H0 ea (excE ea cX) = H1 at *
        refine ⟨_, rfl, (show 6 ≤ sizeLine by decide), fun tp H2 n2 s2 e2 _ => ?_⟩
        refine ⟨ea, cX, _, rfl, s2 _ _ e1, R.fc, .inr (.inr ⟨tp, [cF, cM, cW, cT, cN, cH], false, rfl, e2, R.k1, ?_⟩)⟩
        refine ⟨false, rfl, ?_⟩
        refine iteF ?_
        refine ⟨_, rfl, ea, cX, _, rfl, s2 _ _ e1, R.fc, .inr (.inl ⟨cX, true, rfl, R.k2, ?_⟩)⟩
        refine ⟨true, rfl, ?_⟩
        refine iteT ?_
        exact ⟨_, rfl, ea, cX, _, rfl, s2 _ _ e1, R.fc, .inl ⟨"ValueError", true, rfl, R.k3, q H2 (s0.trans (s1.trans s2))⟩⟩
    | false =>
      refine iteF ?_
      refine ⟨_, rfl, v, d, rfl, hv, ?_⟩
      rcases hb with hd | ⟨x, rfl, ht, no⟩
      case' inl => refine .inr ⟨hd, ?_⟩
      case' inr =>
        rw [if_neg Bool.false_ne_true] at no
        refine .inl ⟨x, rfl, ht, fun L o => absurd ⟨L, o⟩ no, fun _ => ?_⟩
      all_goals
        intro H0 s0
        refine ⟨R.ex, fun ea C e n => ?_⟩
        cases e
        refine ⟨_, rfl, ?_⟩
        have s1 : Same H0 (upd H0 ea (excE ea cX)) := same_new n
        have e1 : upd H0 ea (excE ea cX) ea = some (excE ea cX) := upd_same
        generalize upd H0 ea (excE ea cX) = H1 at *
        refine ⟨_, rfl, (show 6 ≤ sizeLine by decide), fun tp H2 n2 s2 e2 _ => ?_⟩
        refine ⟨ea, cX, _, rfl, s2 _ _ e1, R.fc, .inr (.inr ⟨tp, [cF, cM, cW, cT, cN, cH], false, rfl, e2, R.k1, ?_⟩)⟩
        refine ⟨false, rfl, ?_⟩
        refine iteF ?_
        refine ⟨_, rfl, ea, cX, _, rfl, s2 _ _ e1, R.fc, .inr (.inl ⟨cX, true, rfl, R.k2, ?_⟩)⟩
        refine ⟨true, rfl, ?_⟩
        refine iteT ?_
        exact ⟨_, rfl, ea, cX, _, rfl, s2 _ _ e1, R.fc, .inl ⟨"ValueError", true, rfl, R.k3, q H2 (s0.trans (s1.trans s2))⟩⟩
end
end K48
namespace L3
open PySem L2
theorem for_str {x : Str} {g : TG} {tb : TS} {D : Ends} {σ : L2.St} {H : Hp} (Pv : Nat → L2.St → Hp → Prop) (h0 : Pv 0 σ H)
    (hs : ∀ (N B : L2.St → Hp → Prop) (R : VK) i c σ H, x.cps[i]? = some c → i < x.cps.size → (∀ σ H, Pv (i + 1) σ H → N σ H) → (∀ σ H, D.nx σ H → B σ H) → (∀ v H, D.rt v H → R v H) → Pv i σ H → g (.str ⟨#[c]⟩) σ H fun σ2 H2 => tb ⟨N, R, B, N⟩ σ2 H2) (hd : ∀ σ H, Pv x.cps.size σ H → D.nx σ H) :
    ∃ W : Nat → Nat → L2.St → Hp → Prop, (∃ m, W 0 m σ H) ∧ ∀ i m σ H, W i m σ H →
      ((Its x).stop i H ∧ D.nx σ H) ∨ ((Its x).go i H ∧ ∃ N : L2.St → Hp → Prop, (∀ σ' H', N σ' H' → ∃ m', m' < m ∧ W (i + 1) m' σ' H') ∧ ∀ y H', (Its x).yld i H y H' → g y σ H' fun σ2 H2 => tb { D with nx := N, ct := N, bk := D.nx } σ2 H2) := by
  refine ⟨fun i m σ H => m = x.cps.size - i ∧ i ≤ x.cps.size ∧ Pv i σ H, ⟨x.cps.size, by simp, Nat.zero_le _, h0⟩, ?_⟩
  rintro i m σ H ⟨rfl, hi, p⟩
  by_cases hlt : i < x.cps.size
  · refine .inr ⟨?_, Pv (i + 1), fun σ' H' p' => ⟨x.cps.size - (i + 1), by lia, rfl, hlt, p'⟩, fun y H' z => ?_⟩
    · exact hlt
    · obtain ⟨e, c, hc, rfl⟩ := z
      subst e
      exact hs _ _ _ i c σ _ hc hlt (fun _ _ h => h) (fun _ _ h => h) (fun _ _ h => h) p
  · have e : i = x.cps.size := by lia
    subst e
    exact .inl ⟨Nat.le_refl _, hd σ H p⟩
end L3
namespace K48
open PySem L2 L3 PySem.NumText
noncomputable def sep (c : Nat) : Bool := decide (c = 40 ∨ c = 41 ∨ c = 46 ∨ c = 32)
noncomputable def wrd (w : List Nat) : List Str := if w = [] then [] else [⟨w.toArray⟩]
noncomputable def it1 (s : List Str × List Nat) (c : Nat) : List Str × List Nat := if sep c = true then (s.1 ++ wrd s.2 ++ [⟨#[c]⟩], []) else (s.1, s.2 ++ [c])
noncomputable def its (l : List Nat) : List Str × List Nat := l.foldl it1 ([], [])
noncomputable def items (l : List Nat) : List Str := (its l).1 ++ wrd (its l).2
noncomputable def cat (A : List Str) : List Nat := A.flatMap ls
theorem cat_wrd (w : List Nat) : cat (wrd w) = w := by
  unfold wrd
  split
  · rename_i h; rw [h]; rfl
  · simp [cat]
theorem its_cat (l : List Nat) : cat (its l).1 ++ (its l).2 = l := by
  have : ∀ (l : List Nat) (s : List Str × List Nat), cat (l.foldl it1 s).1 ++ (l.foldl it1 s).2 = cat s.1 ++ s.2 ++ l := fun l => by
    induction l with
    | nil => intro s; simp
    | cons c l ih =>
      intro s
      rw [List.foldl_cons, ih]
      unfold it1
      split
      · show cat (s.1 ++ wrd s.2 ++ [⟨#[c]⟩]) ++ [] ++ l = _
        unfold cat
        rw [List.flatMap_append, List.flatMap_append]
        have := cat_wrd s.2
        unfold cat at this
        rw [this]; simp; rfl
      · simp
  have := this l ([], [])
  simpa [its, cat] using this
theorem items_cat (l : List Nat) : cat (items l) = l := by
  unfold items cat
  rw [List.flatMap_append]
  have h1 := cat_wrd (its l).2
  have h2 := its_cat l
  unfold cat at h1 h2
  rw [h1, h2]
theorem sep_in (c : Nat) : (!(!(Builtin.Str.occurrences ("(). " : Str) ⟨#[c]⟩ 0 ("(). " : Str).length 1).isEmpty)) = !sep c := by
  rw [PySem.StrLaws.found_one]
  have e : ("(). " : Str).cps.toList = [40, 41, 46, 32] := by decide
  rw [e]
  unfold sep
  congr 1
  refine decide_eq_decide.mpr ?_
  simp only [List.mem_cons, List.not_mem_nil, or_false]
theorem old_none {H G : Hp} {r : Addr} (s : Same H G) (n : G r = none) : H r = none := by
  cases e : H r with
  | none => rfl
  | some o => rw [s _ _ e] at n; cases n
noncomputable def spIt : Sp := fun vs H Q _ => ∃ x : Str, vs = [.str x] ∧ T48 x ∧ ∀ r H', H r = none → Same H H' → H' r = some (.lst ((items (ls x)).map V.str)) → Q (.ref r) H'
theorem its_len (l : List Nat) : (its l).1.length ≤ 2 * l.length ∧ (its l).2.length ≤ l.length := by
  have : ∀ (l : List Nat) (s : List Str × List Nat), (l.foldl it1 s).1.length ≤ s.1.length + 2 * l.length ∧ (l.foldl it1 s).2.length ≤ s.2.length + l.length := fun l => by
    induction l with
    | nil => intro s; exact ⟨Nat.le_refl _, Nat.le_refl _⟩
    | cons c l ih =>
      intro s
      have h := ih (it1 s c)
      have hw : (wrd s.2).length ≤ 1 := by unfold wrd; split <;> simp
      rw [List.foldl_cons, List.length_cons]
      unfold it1 at h ⊢
      split at h
      · rename_i hc
        rw [if_pos hc]
        simp only [List.length_append, List.length_cons, List.length_nil] at h ⊢
        lia
      · rename_i hc
        rw [if_neg hc]
        simp only [List.length_append, List.length_cons, List.length_nil] at h ⊢
        lia
  simpa [its] using this l ([], [])
section
variable {P : Program} {w : World} {K : PySem.W.Frag} {mg : Str → Option Value} {base : Heap}
theorem ok_items {f : Addr} (F : Fd K mg "_law_items" s_law_items f) (T : Tx K mg) : Cal P w K mg base CX0 1 "_law_items" spIt := by
  refine F.cal sc_law_items (fun _ _ _ _ _ _ us hl => L3.bind1 (fun _ => rfl) us hl) (fun vs H Q E h => ?_) (fun cdv A outer s H vs Q E hr h => ?_)
  · obtain ⟨x, rfl, _⟩ := h; rfl
  · obtain ⟨x, rfl, ht, q⟩ := h
    have hl := ht.1
    have hxl := ls_len x
    refine ⟨_, (bcons (sset (i := 1) sc_law_items.nd rfl (by first | exact Or.inl rfl | exact Or.inr rfl) (qlst qnil))
      (bcons (sset (i := 2) sc_law_items.nd rfl (by first | exact Or.inl rfl | exact Or.inr rfl) qstr)
      (bcons (sfor PassesOwn.never rfl (istr (qv 0)) (gname (i := 3) sc_law_items.nd rfl (by first | exact Or.inl rfl | exact Or.inr rfl))
        (bone (sif (tcmp rNotInS (qv 3) qstr (by with_unfolding_all rfl)) (bone (sset (i := 2) sc_law_items.nd rfl (by first | exact Or.inl rfl | exact Or.inr rfl) (qop rAdd (qv 2) (qv 3)))) (bcons (sif (tcmp (rNeq hr) (qv 2) qstr (nomark _)) (bone (sexpr (qBm K PySem.F.plainAttrs_list PySem.F.slot_list_append PySem.F.type_list_append mAppend (qv 1) (qcons (qv 2) qnil)))) bnil)
          (bcons (sexpr (qBm K PySem.F.plainAttrs_list PySem.F.slot_list_append PySem.F.type_list_append mAppend (qv 1) (qcons (qv 3) qnil)))
          (bone (sset (i := 2) sc_law_items.nd rfl (by first | exact Or.inl rfl | exact Or.inr rfl) qstr)))))))
      (bone (sret (qop rAdd (qv 1) (qop rMulL (qlst (qcons (qv 2) qnil)) (qTy fInt rfl T.b_int bt_int (qcons (qcmp (rNeq hr) (qv 2) qstr (nomark _)) qnil))))))))), ?_⟩
    refine ⟨(show 0 ≤ sizeLine by decide), fun l0 H1 n1 s1 e1 _ => ?_⟩
    rw [c_emp]
    refine ⟨_, rfl, x, rfl, ascii_of ht.2, for_str (fun i σ G => ∃ z3 : Option V, σ = [some (.str x), some (.ref l0), some (.str ⟨((its ((ls x).take i)).2).toArray⟩), z3] ∧ Same H G ∧ G l0 = some (.lst ((its ((ls x).take i)).1.map V.str))) ⟨none, rfl, s1, e1⟩ ?_ ?_⟩
    · rintro N B R i c σ G hc hi hN _ _ ⟨z3, rfl, sG, aG⟩
      have hcm : (ls x)[i]? = some c := by rw [← hc]; simp
      have hstep : its ((ls x).take (i + 1)) = it1 (its ((ls x).take i)) c := by
        unfold its
        rw [List.take_add_one, hcm, List.foldl_append]; rfl
      have hln := its_len ((ls x).take i)
      rw [List.length_take] at hln
      refine ⟨_, rfl, _, _, rfl, rfl, _, rfl, ?_⟩
      rw [sep_in]
      by_cases hs : sep c = true
      · rw [hs]
        refine iteF ?_
        have e1 : it1 (its ((ls x).take i)) c = ((its ((ls x).take i)).1 ++ wrd (its ((ls x).take i)).2 ++ [⟨#[c]⟩], []) := by unfold it1; rw [if_pos hs]
        refine ⟨_, rfl, _, rfl, ?_⟩
        by_cases hw : (its ((ls x).take i)).2 = []
        · rw [decide_eq_true (show (⟨((its ((ls x).take i)).2).toArray⟩ : Str) = Str.empty by rw [hw]; rfl)]
          refine iteF ?_
          refine ⟨_, rfl, .inl ⟨rfl, _, SqL.of aG⟩, _, rfl, l0, _, _, rfl, rfl, aG, sizeHuge48 (by rw [List.length_map]; lia), ?_⟩
          refine hN _ _ ⟨some (.str ⟨#[c]⟩), ?_, same_upd sG n1, ?_⟩
          · rw [hstep, e1]; rfl
          · rw [upd_same, hstep, e1, hw]
            simp [wrd]
        · rw [decide_eq_false (show ¬ (⟨((its ((ls x).take i)).2).toArray⟩ : Str) = Str.empty from fun z => hw (congrArg ls z))]
          refine iteT ?_
          refine ⟨_, rfl, .inl ⟨rfl, _, SqL.of aG⟩, _, rfl, l0, _, _, rfl, rfl, aG, sizeHuge48 (by rw [List.length_map]; lia), ?_⟩
          refine ⟨_, rfl, .inl ⟨rfl, _, SqL.of upd_same⟩, _, rfl, l0, _, _, rfl, rfl, upd_same, sizeHuge48 (by rw [List.length_append, List.length_map]; simp; lia), ?_⟩
          refine hN _ _ ⟨some (.str ⟨#[c]⟩), ?_, same_upd (same_upd sG n1) n1, ?_⟩
          · rw [hstep, e1]; rfl
          · rw [upd_same, hstep, e1]
            simp [wrd, hw]
      · rw [show sep c = false by simpa using hs]
        refine iteT ?_
        have e1 : it1 (its ((ls x).take i)) c = ((its ((ls x).take i)).1, (its ((ls x).take i)).2 ++ [c]) := by unfold it1; rw [if_neg hs]
        refine ⟨_, rfl, _, rfl, big (by show (its ((ls x).take i)).2.toArray.size + 1 ≤ _; simp; lia), ?_⟩
        refine hN _ _ ⟨some (.str ⟨#[c]⟩), ?_, sG, ?_⟩
        · rw [hstep, e1]
          have : (⟨((its ((ls x).take i)).2).toArray⟩ ++ ⟨#[c]⟩ : Str) = ⟨((its ((ls x).take i)).2 ++ [c]).toArray⟩ := ls_ext (by rw [ls_app])
          rw [← this]; rfl
        · rw [hstep, e1]; exact aG
    · rintro σ G ⟨z3, rfl, sG, aG⟩
      have hts : (ls x).take x.cps.size = ls x := List.take_of_length_le (by rw [← ls_len]; exact Nat.le_refl _)
      rw [hts] at aG ⊢
      have hln := its_len (ls x)
      refine ⟨_, rfl, _, rfl, (show 1 ≤ sizeLine by decide), fun k G1 n2 s2 e2 _ => ?_⟩
      refine ⟨_, rfl, .inr ⟨_, rfl, ?_⟩⟩
      by_cases hw : (its (ls x)).2 = []
      · rw [decide_eq_true (show (⟨((its (ls x)).2).toArray⟩ : Str) = Str.empty by rw [hw]; rfl)]
        show rRepN (V.ref k) (V.int 0) G1 _
        refine ⟨k, 0, _, rfl, rfl, e2, by decide, by decide, (by show 1 * 0 ≤ sizeLine; decide), fun m G2 n3 s3 e3 _ => ?_⟩
        refine ⟨_, _, (s2.trans s3) _ _ aG, e3, Nat.le_of_lt (sizeHuge48 (by simp; lia)), fun r G3 n4 s4 e4 _ => q r G3 (old_none (sG.trans (s2.trans s3)) n4) (sG.trans (s2.trans (s3.trans s4))) ?_⟩
        rw [e4]
        unfold items
        simp [wrd, hw]
      · rw [decide_eq_false (show ¬ (⟨((its (ls x)).2).toArray⟩ : Str) = Str.empty from fun z => hw (congrArg ls z))]
        show rRepN (V.ref k) (V.int 1) G1 _
        refine ⟨k, 1, _, rfl, rfl, e2, by decide, by decide, (by show 1 * 1 ≤ sizeLine; decide), fun m G2 n3 s3 e3 _ => ?_⟩
        refine ⟨_, _, (s2.trans s3) _ _ aG, e3, Nat.le_of_lt (sizeHuge48 (by simp; lia)), fun r G3 n4 s4 e4 _ => q r G3 (old_none (sG.trans (s2.trans s3)) n4) (sG.trans (s2.trans (s3.trans s4))) ?_⟩
        rw [e4]
        unfold items
        simp [wrd, hw]
end
end K48
namespace K48
open PySem L2 L3 PySem.NumText
theorem page_of {y : Str} {p : List Int} (h : pgW y = p.map num) : keysT p = y := by
  unfold pgW at h
  split at h
  · rename_i h0
    have : p = [] := List.map_eq_nil_iff.mp h.symm
    subst this
    exact ((emp_iff y).mpr h0).symm
  · unfold keysT
    rw [← h]
    exact PySem.StrLaws.join_split y _
theorem lay_of {x : Str} {L : List (List Int)} (o : OfL x L) : layT L = x := by
  have hL : L.map keysT = layW x := by
    have e := o.2.1
    have : ∀ (A : List Str) (L : List (List Int)), A.map pgW = L.map (List.map num) → L.map keysT = A := fun A => by
      induction A with
      | nil => intro L h; rw [List.map_nil] at h; rw [List.map_eq_nil_iff.mp h.symm]; rfl
      | cons a A ih =>
        intro L h
        cases L with
        | nil => cases h
        | cons p L =>
          rw [List.map_cons, List.map_cons] at h
          obtain ⟨h1, h2⟩ := List.cons.inj h
          rw [List.map_cons, page_of h1, ih L h2]
    exact this _ _ e
  unfold layT
  rw [hL]
  unfold layW
  split
  · rename_i h0
    exact ((emp_iff x).mpr h0).symm
  · exact PySem.StrLaws.join_split x _
theorem tree_of_is {x : Str} {t : Tr} (h : ls x = showL t) : shT t = x := ls_ext (by rw [sh_ls, h])
end K48
namespace HS
open PySem PySem.W PySem.Calls PyProof.Rows
section
variable {prog : Program} {w : World} {A : Around} {E : Value → Shared → Prop} {s : Shared} {T : String} {r d : Addr} {n : Nat} {P : Nat → Value → Prop} {OK : Heap → Prop}
end
end HS
namespace L3
open PySem PySem.Spec PyProof.Rows L2
section
variable {X : Cx}
end
end L3
namespace HS
open PySem PySem.W PySem.Calls PyProof.Rows
noncomputable def Ri (xs : Array Nat) : Prop := xs.toList.Pairwise (· < ·)
theorem Ri.lt {xs : Array Nat} (h : Ri xs) {a b x y : Nat} (hab : a < b) (ha : xs[a]? = some x) (hb : xs[b]? = some y) : x < y := by
  have := List.pairwise_iff_getElem.mp h
  obtain ⟨la, rfl⟩ := Array.getElem?_eq_some_iff.mp ha
  obtain ⟨lb, rfl⟩ := Array.getElem?_eq_some_iff.mp hb
  have := this a b (by simpa using la) (by simpa using lb) hab
  rw [Array.getElem_toList, Array.getElem_toList] at this
  exact this
theorem below_go {xs : Array Nat} {j : Nat} (hr : Ri xs) : ∀ (fuel lo hi : Nat), lo ≤ hi → hi ≤ xs.size → hi - lo ≤ fuel → (∀ k x, k < lo → xs[k]? = some x → x < j) → (∀ k x, hi ≤ k → xs[k]? = some x → j ≤ x) →
    (SetTable.below.go xs j fuel lo hi ≤ xs.size) ∧ (∀ k x, k < SetTable.below.go xs j fuel lo hi → xs[k]? = some x → x < j) ∧ (∀ k x, SetTable.below.go xs j fuel lo hi ≤ k → xs[k]? = some x → j ≤ x)
  | 0, lo, hi, h1, h2, h3, a, b => by
    have : lo = hi := by lia
    subst this
    exact ⟨h2, a, b⟩
  | fuel + 1, lo, hi, h1, h2, h3, a, b => by
    rw [SetTable.below.go]
    by_cases hlt : lo < hi
    · rw [if_pos hlt]
      have hm : (lo + hi) / 2 < xs.size := by lia
      have e : xs[(lo + hi) / 2]? = some xs[(lo + hi) / 2] := Array.getElem?_eq_getElem hm
      have eg : xs.getD ((lo + hi) / 2) j = xs[(lo + hi) / 2] := by simp [Array.getD, hm]
      dsimp only
      rw [eg]
      by_cases hc : xs[(lo + hi) / 2] < j
      · rw [if_pos hc]
        refine below_go hr fuel _ hi (by lia) h2 (by lia) (fun k x hk hx => ?_) b
        rcases Nat.lt_or_ge k ((lo + hi) / 2) with h | h
        · exact Nat.lt_trans (hr.lt h hx e) hc
        · have : k = (lo + hi) / 2 := by lia
          subst this
          rw [e] at hx; cases hx; exact hc
      · rw [if_neg hc]
        refine below_go hr fuel lo _ (by lia) (by lia) (by lia) a fun k x hk hx => ?_
        rcases Nat.lt_or_ge ((lo + hi) / 2) k with h | h
        · have := hr.lt h e hx; lia
        · have : k = (lo + hi) / 2 := by lia
          subst this
          rw [e] at hx; cases hx; lia
    · rw [if_neg hlt]
      have : lo = hi := by lia
      subst this
      exact ⟨h2, a, b⟩
theorem below_at {xs : Array Nat} (hr : Ri xs) (j : Nat) : (SetTable.below xs j ≤ xs.size) ∧ (∀ k x, k < SetTable.below xs j → xs[k]? = some x → x < j) ∧ (∀ k x, SetTable.below xs j ≤ k → xs[k]? = some x → j ≤ x) :=
  below_go hr xs.size 0 xs.size (Nat.zero_le _) (Nat.le_refl _) (by lia) (fun k x hk => by lia) (fun k x hk hx => by
    have := (Array.getElem?_eq_some_iff.mp hx).1; lia)
theorem below_next {xs : Array Nat} (hr : Ri xs) {i x : Nat} (hx : xs[i]? = some x) : SetTable.below xs (x + 1) = i + 1 := by
  obtain ⟨b1, b2, b3⟩ := below_at hr (x + 1)
  have hi := (Array.getElem?_eq_some_iff.mp hx).1
  rcases Nat.lt_trichotomy (SetTable.below xs (x + 1)) (i + 1) with h | h | h
  · have := b3 i x (by lia) hx; lia
  · exact h
  · have hl : i + 1 < xs.size := by lia
    have e : xs[i + 1]? = some xs[i + 1] := Array.getElem?_eq_getElem hl
    have h1 := b2 (i + 1) _ h e
    have h2 := hr.lt (Nat.lt_succ_self i) hx e
    lia
theorem below_zero {xs : Array Nat} (hr : Ri xs) : SetTable.below xs 0 = 0 := by
  obtain ⟨b1, b2, b3⟩ := below_at hr 0
  rcases Nat.eq_zero_or_pos (SetTable.below xs 0) with h | h
  · exact h
  · have hl : 0 < xs.size := by lia
    have := b2 0 _ h (Array.getElem?_eq_getElem hl); lia
noncomputable def Fre (t : SetTable) (j : Nat) : Prop := t.place[SetTable.below t.place j]? ≠ some j
theorem ri_put {t : SetTable} {j : Nat} (hr : Ri t.place) (hf : Fre t j) : Ri (t.put j).1.place := by
  obtain ⟨b1, b2, b3⟩ := below_at hr j
  unfold Fre at hf
  show Ri (SetTable.insertAt t.place (SetTable.below t.place j) j)
  generalize SetTable.below t.place j = p at b1 b2 b3 hf
  unfold Ri at hr ⊢
  rw [SetTable.toList_insertAt]
  have hL : ∀ x ∈ t.place.toList.take p, x < j := fun x hx => by
    obtain ⟨k, hk, e⟩ := List.mem_iff_getElem.mp hx
    rw [List.length_take] at hk
    exact b2 k x (by lia) (by rw [← Array.getElem?_toList, ← e, List.getElem_take]; exact List.getElem?_eq_getElem _)
  have hR : ∀ x ∈ t.place.toList.drop p, j < x := fun x hx => by
    obtain ⟨k, hk, e⟩ := List.mem_iff_getElem.mp hx
    rw [List.length_drop] at hk
    have hx' : t.place[p + k]? = some x := by rw [← Array.getElem?_toList, ← e, List.getElem_drop]; exact List.getElem?_eq_getElem _
    have h1 := b3 (p + k) x (by lia) hx'
    rcases Nat.lt_or_ge j x with h | h
    · exact h
    · have : x = j := by lia
      subst this
      rcases Nat.eq_zero_or_pos k with h0 | h0
      · subst h0; exact absurd hx' hf
      · have hp : p < t.place.size := by have : t.place.toList.length = t.place.size := Array.length_toList; lia
        have e2 : t.place[p]? = some t.place[p] := Array.getElem?_eq_getElem hp
        have h2 := b3 p _ (Nat.le_refl _) e2
        have h3 := Ri.lt (xs := t.place) hr (show p < p + k by lia) e2 hx'
        lia
  have hrt := List.Pairwise.sublist (List.take_sublist p _) hr
  have hrd := List.Pairwise.sublist (List.drop_sublist p _) hr
  refine List.pairwise_append.mpr ⟨hrt, List.pairwise_cons.mpr ⟨hR, hrd⟩, fun x hx y hy => ?_⟩
  rcases List.mem_cons.mp hy with h | h
  · subst h; exact hL x hx
  · exact Nat.lt_trans (hL x hx) (hR y h)
theorem slot_fre {t : SetTable} {j : Nat} (h : t.slot j = .empty ∨ t.slot j = .dummy) : Fre t j := by
  intro z
  unfold SetTable.slot at h
  dsimp only at h
  rw [z] at h
  simp at h
theorem probe_fre {t : SetTable} {ha : Nat → Int} {h : Int} : ∀ (fuel : Nat) (p : SetTable.Probe), (∀ d, p.dummy = some d → Fre t d) → ∀ {j : Nat} {dm : Option Nat}, SetTable.probe.go t ha h fuel p = some (.empty j dm) → Fre t j ∧ ∀ d, dm = some d → Fre t d
  | 0, p, hd, j, dm, e => by rw [SetTable.probe.go] at e; cases e
  | fuel + 1, p, hd, j, dm, e => by
    have adv : ∀ q : SetTable.Probe, (t.advance q).dummy = q.dummy := fun q => by unfold SetTable.advance; split <;> rfl
    rw [SetTable.probe.go] at e
    split at e
    · rename_i hs
      cases e
      exact ⟨slot_fre (.inl hs), hd⟩
    · rename_i hs
      refine probe_fre fuel _ (fun d hd' => ?_) e
      rw [adv] at hd'
      cases hd'
      exact slot_fre (.inr hs)
    · split at e
      · cases e
      · exact probe_fre fuel _ (fun d hd' => hd d (by rw [adv] at hd'; exact hd')) e
theorem free_fre {t : SetTable} {h : Int} {j : Nat} {b : Bool} (e : t.freeSlot h = some (j, b)) : Fre t j := by
  unfold SetTable.freeSlot at e
  split at e
  · rename_i j' dm hp
    obtain ⟨h1, h2⟩ := probe_fre _ _ (fun d hd => by cases hd) hp
    cases dm with
    | none => cases e; exact h1
    | some d => cases e; exact h2 _ rfl
  · cases e
structure TOk (b : Bool) (t : SetTable) : Prop where
  led : t.led = b
  ri : Ri t.place
theorem ri_range (n : Nat) : Ri (Array.range n) := by
  unfold Ri
  rw [Array.toList_range]
  exact List.pairwise_lt_range
theorem tok_stand {b : Bool} {t : SetTable} (h : TOk b t) (n : Nat) : TOk b (t.standIn n) := ⟨h.led, ri_range n⟩
theorem tok_new {b : Bool} {t : SetTable} (H : TOk b t) (es : Array (Int × Value)) (h : Int) (x : Value) : TOk b (layNew t es h x).2.1 := by
  unfold layNew
  split
  · rename_i sl wd hs
    have : TOk b (t.put sl).1 := ⟨H.led, ri_put H.ri (free_fre hs)⟩
    dsimp only
    unfold SetTable.orStandIn
    split
    · exact this
    · exact tok_stand this _
  · exact tok_stand H _
theorem tok_laid {mask finger moves : Nat} {b p : Bool} {hs : Array Int} {t : SetTable} {ord : Array Nat} (e : SetTable.laid mask finger moves b p hs = some (t, ord)) : TOk b t := by
  unfold SetTable.laid at e
  cases ho : SetTable.layClean mask hs with
  | none => rw [ho] at e; cases e
  | some owner =>
    rw [ho] at e
    cases e
    refine ⟨rfl, ?_⟩
    show List.Pairwise _ _
    rw [List.map_filterMap]
    refine List.Pairwise.filterMap _ (R := (· < ·)) (fun a a' haa b hb b' hb' => ?_) List.pairwise_lt_range
    simp only [Option.map_map, Option.map_eq_some_iff, Function.comp] at hb hb'
    obtain ⟨_, _, rfl⟩ := hb
    obtain ⟨_, _, rfl⟩ := hb'
    exact haa
theorem tok_relay {b : Bool} {t : SetTable} (H : TOk b t) (es : Array (Int × Value)) (n : Nat) : TOk b (relayAll t es n).2.1 := by
  unfold relayAll
  split
  · rename_i t' ord hs
    dsimp only
    split
    · have := tok_laid hs
      exact ⟨this.led.trans H.led, this.ri⟩
    · exact tok_stand H _
  · exact tok_stand H _
noncomputable abbrev byT (w : World) : Bool := w.params.followText "set-order"
section
variable {prog : Program} {w : World} {A : Around} {E : Value → Shared → Prop} {s : Shared}
noncomputable def SetJ (prog : Program) (w : World) (h : Heap) (a : Addr) (S : Int → Bool) (n : Nat) : Prop :=
  ∃ o es ep t, h.get? a = some o ∧ o.ExactSet ∧ o.data = .set es ep t ∧ ElemsOf (intKind prog w) es.toList ∧ (∀ k, S k = true ↔ ∃ e ∈ es.toList, (intKind prog w).is k e.2 = true) ∧ es.size < scanBound ∧ t.fits es.size = true ∧ es.size = n ∧ TOk (!(byT w)) t
theorem setJ_at {h h' : Heap} {a : Addr} {S : Int → Bool} {n : Nat} (x : SetJ prog w h a S n) (k : ∀ o, h.get? a = some o → h'.get? a = some o) : SetJ prog w h' a S n :=
  let ⟨o, es, ep, t, ho, r⟩ := x; ⟨o, es, ep, t, k _ ho, r⟩
theorem setJ_congr {h : Heap} {a : Addr} {S S' : Int → Bool} {n n' : Nat} (x : SetJ prog w h a S n) (e : ∀ k, S k = S' k) (en : n = n') : SetJ prog w h a S' n' := by
  have : S = S' := funext e
  subst this; subst en; exact x
theorem store_get {h : Heap} {a : Addr} {o : Obj} {es es' : Array (Int × Value)} {ep : Nat} {t t' : SetTable} (ho : h.get? a = some o) (hd : o.data = .set es ep t) :
    (h.update a (Obj.putSet es' t')).get? a = some { o with data := .set es' (ep + 1) t' } := by
  have := Heap.get?_update_self (Obj.putSet es' t') ho (by rw [putSet_of es' t' hd]; rfl)
  rw [putSet_of es' t' hd] at this; exact this
theorem add_J {a : Addr} {S : Int → Bool} {n : Nat} {k : Int} {tk : Tok} {Q : Bool → Shared → Prop} (hS : SetJ prog w s.heap a S n) (room : n + 1 < scanBound)
    (h : ∀ h', Heap.SameBut a s.heap h' → SetJ prog w h' a (fun k' => S k' || decide (k' = k)) (if S k then n else n + 1) → Q (!S k) { s with heap := h' }) :
    wpAny (model prog w) A (setAddHashed a (.int k tk) ((intKind prog w).hash k)) Q E s := by
  have hkey : (intKind prog w).is k (.int k tk) = true := intKind_is _ _ _ _
  obtain ⟨o, es, ep, t, ho, hex, hd, hel, hmem, hb, hf, hn, hT⟩ := hS
  unfold setAddHashed setAddHashedIn
  refine wpAny_holding (wpAny_bind (wpAny_setState_of ho hd hf ?_))
  dsimp only
  rw [byScan_of (x := .int k tk) rfl hb hel]
  simp only [↓reduceIte]
  unfold setAddByScan
  refine wpAny_bind (wpAny_bind (wpAny_rule (wpAny_bind (wpAny_setScan_of hkey ho hd hf hel ?_))))
  cases hr : List.findIdx? (fun e => (intKind prog w).is k e.2) es.toList with
  | some j =>
    dsimp only
    obtain ⟨hj, hpj, _⟩ := List.findIdx?_eq_some_iff_getElem.mp hr
    have hSk : S k = true := (hmem k).mpr ⟨es.toList[j], List.getElem_mem hj, hpj⟩
    refine wpAny_pure (wpAny_pure ?_)
    have := h s.heap (Heap.SameBut.refl a s.heap) ⟨o, es, ep, t, ho, hex, hd, hel, fun k' => by
      rw [Bool.or_eq_true, decide_eq_true_eq, ← hmem k']
      exact ⟨fun hk => hk.elim id (fun e => e ▸ hSk), .inl⟩, hb, hf, by rw [hSk]; exact hn, hT⟩
    rw [hSk] at this; exact this
  | none =>
    dsimp only
    have hSk : S k = false := by
      cases hk : S k with
      | false => rfl
      | true => obtain ⟨e, he, hp⟩ := (hmem k).mp hk; have := List.findIdx?_eq_none_iff.mp hr e he; rw [hp] at this; cases this
    rw [hSk] at h
    have hperm := layNew_perm t es ((intKind prog w).hash k) (.int k tk)
    have hfits := layNew_fits t es ((intKind prog w).hash k) (.int k tk)
    have htok := tok_new hT es ((intKind prog w).hash k) (.int k tk)
    generalize layNew t es ((intKind prog w).hash k) (.int k tk) = L at hperm hfits htok ⊢
    obtain ⟨es1, t1, wd, gave⟩ := L
    dsimp only at hperm hfits htok ⊢
    rw [Array.toList_push] at hperm
    have hel1 : ElemsOf (intKind prog w) es1.toList := (hel.push hkey rfl).perm hperm
    have hmem1 : ∀ k', (S k' || decide (k' = k)) = true ↔ ∃ e ∈ es1.toList, (intKind prog w).is k' e.2 = true := mem_push_iff hkey hmem hperm
    have hsz1 : es1.size = n + 1 := by rw [← Array.length_toList, hperm.length_eq, List.length_append, Array.length_toList, hn]; rfl
    have hgw : ∀ (b : Bool) {s₁ : Shared} {Q' : Unit → Shared → Prop}, Q' () s₁ → wpAny (model prog w) A (match b with | true => rule "set.scan.the-table-gave-way" | false => pure ()) Q' E s₁ :=
      fun b s₁ Q' hq => by cases b <;> first | exact wpAny_pure hq | exact wpAny_rule hq
    refine wpAny_bind (hgw _ ?_)
    have ho1 := store_get (es' := es1) (t' := t1) ho hd
    have hsb1 := Heap.SameBut.update s.heap a (Obj.putSet es1 t1)
    have tail : ∀ (g : Bool → Sem Unit), (∀ (b : Bool) (s₁ : Shared) (Q' : Unit → Shared → Prop), Q' () s₁ → wpAny (model prog w) A (g b) Q' E s₁) → wpAny (model prog w) A (do
        storeSet a es1 t1
        if (!wd && t1.tooFull) = true then do
            g (relayAll t1 es1 (SetTable.grown es1.size)).2.2
            storeSet a (relayAll t1 es1 (SetTable.grown es1.size)).1 (relayAll t1 es1 (SetTable.grown es1.size)).2.1
            pure (some true)
          else pure (some true)) (fun r s' => ∃ h', r = some true ∧ s' = { s with heap := h' } ∧ Heap.SameBut a s.heap h' ∧ SetJ prog w h' a (fun k' => S k' || decide (k' = k)) (n + 1)) E s := fun g hg => by
      refine wpAny_bind (wpAny_storeSet_of ho hd ?_ (fits_of_scanBound (by lia)))
      split
      · have hp := relayAll_perm t1 es1 (SetTable.grown es1.size)
        have hfr := relayAll_fits t1 es1 (SetTable.grown es1.size)
        have htr := tok_relay htok es1 (SetTable.grown es1.size)
        generalize relayAll t1 es1 (SetTable.grown es1.size) = Rl at hp hfr htr ⊢
        obtain ⟨es2, t3, gave2⟩ := Rl
        dsimp only at hp hfr htr ⊢
        have hsz : es2.size = es1.size := by rw [← Array.length_toList, hp.length_eq, Array.length_toList]
        refine wpAny_bind (hg _ _ _ ?_)
        refine wpAny_bind (wpAny_storeSet_of ho1 rfl ?_ (fits_of_scanBound (by lia)))
        exact wpAny_pure ⟨_, rfl, rfl, hsb1.trans (Heap.SameBut.update _ a _), _, es2, _, t3, store_get ho1 rfl, hex, rfl, hel1.perm hp, fun k' => (hmem1 k').trans ⟨fun ⟨e, he, q⟩ => ⟨e, hp.mem_iff.mpr he, q⟩, fun ⟨e, he, q⟩ => ⟨e, hp.mem_iff.mp he, q⟩⟩, by lia, hfr, by lia, htr⟩
      · exact wpAny_pure ⟨_, rfl, rfl, hsb1, _, es1, _, t1, ho1, hex, rfl, hel1, hmem1, by lia, hfits, hsz1, htok⟩
    have fin : ∀ (r : Option Bool) (s' : Shared), (∃ h', r = some true ∧ s' = { s with heap := h' } ∧ Heap.SameBut a s.heap h' ∧ SetJ prog w h' a (fun k' => S k' || decide (k' = k)) (n + 1)) → wpAny (model prog w) A (match r with
        | some added => pure added
        | none => setAddHashedIn a (Value.int k tk) ((intKind prog w).hash k) 99999) Q E s' := by
      rintro r s' ⟨h', rfl, rfl, sb, sj⟩
      exact wpAny_pure (h h' sb sj)
    split
    · refine wpAny_bind (m := hashByValue 8 (.int k tk)) (wpAny_pure ?_)
      simp only [↓reduceIte]
      refine wpAny_mono (tail _ ?_) fin fun _ _ e => e
      intro b s₁ Q' hq; cases b <;> first | exact wpAny_pure hq | exact wpAny_rule hq
    · refine wpAny_bind (wpAny_pure ?_)
      simp only [↓reduceIte]
      refine wpAny_mono (tail _ ?_) fin fun _ _ e => e
      intro b s₁ Q' hq; cases b <;> first | exact wpAny_pure hq | exact wpAny_rule hq
end
end HS
namespace HS
open PySem PySem.W PySem.Calls PyProof.Rows
noncomputable abbrev met (val : Nat → Int) (i : Nat) (k : Int) : Bool := (firstMet val i).any (· == k)
section
variable {prog : Program} {w : World} {A : Around} {E : Value → Shared → Prop} {s : Shared}
theorem upd_J {R : Result → Shared → Prop} {I : Addr} {fp wr : List Addr} {G : Array GenState → Array GenState → Prop} {n : Nat} {P : Nat → Value → Prop} {St : Nat → Shared → Prop} (W : WalksS prog w A.in1 I fp wr G n P St) (S : Addr) (hSf : S ∉ fp)
    (val : Nat → Int) (hval : ∀ i v, P i v → ∃ t, v = .int (val i) t) (hb : n + 1 < scanBound) : ∀ (k i : Nat) (s : Shared), n - i = k → i ≤ n → St i s → SetJ prog w s.heap S (met val i) (firstMet val i).length →
      (∀ s', Moved (S :: wr) G s s' → SetJ prog w s'.heap S (met val n) (firstMet val n).length → R (.ok (.ret .none)) s') →
      codeAny (model prog w) A (.builtin "set.update.loop" ⟨[.ref S, .ref I], []⟩) R s := by
  have hSw : S ∉ wr := fun h => hSf (W.sub _ h)
  have hsub : ∀ b ∈ wr, b ∈ S :: wr := fun b hb => List.mem_cons_of_mem _ hb
  intro k
  induction k with
  | zero =>
    intro i s hk hi hst hS hR
    have hin : i = n := by lia
    subst hin
    refine codeAny_builtin PyProof.Rows.F.entry_set_update_loop ?_
    rw [Around.under_plainId PyProof.Rows.F.plain_set_update_loop _]
    show wpAny _ A.in1 (pyNext (.ref I) >>= _) _ _ s
    refine wpAny_bind (W.done s _ _ hst fun s' hm => ?_)
    show wpAny _ A.in1 (ret Value.none) _ _ s'
    exact wpAny_pure (hR s' (hm.mono hsub) (setJ_at hS fun o e => hm.heap S o hSw e))
  | succ k ih =>
    intro i s hk hi hst hS hR
    have hlt : i < n := by lia
    refine codeAny_builtin PyProof.Rows.F.entry_set_update_loop ?_
    rw [Around.under_plainId PyProof.Rows.F.plain_set_update_loop _]
    show wpAny _ A.in1 (pyNext (.ref I) >>= _) _ _ s
    refine wpAny_bind (W.item i s _ _ hlt hst fun v s' hP hst' hm => ?_)
    obtain ⟨t, rfl⟩ := hval i v hP
    show wpAny _ A.in1 (holding [Value.int (val i) t] (setAdd S (.int (val i) t)) >>= _) _ _ s'
    refine wpAny_bind (wpAny_holding ?_)
    unfold setAdd
    refine wpAny_holding (wpAny_bind ((intKind prog w).pyHash (k := val i) (intKind_is _ _ _ _) ?_))
    have hroom : (firstMet val i).length + 1 < scanBound := by have := firstMet_length_le val i; lia
    refine add_J (s := { s' with toks := s'.toks + 1 }) (setJ_at hS fun o e => hm.heap S o hSw e) hroom fun h' hsb hS2 => ?_
    have hSi : SetJ prog w h' S (met val (i + 1)) (firstMet val (i + 1)).length :=
      setJ_congr hS2 (fun k' => by show _ = (firstMet val (i + 1)).any _; rw [firstMet_succ, step_any]) (by rw [firstMet_succ, step_length])
    refine wpAny_pure ⟨plainId_quiet PyProof.Rows.F.plain_set_update_loop _, ih (i + 1) _ (by lia) hlt (W.frame _ s' _ _ hst' (Nat.le_succ _) fun b hb o e => ?_) hSi fun s'' hm'' hS'' => ?_⟩
    · rw [hsb.2 b (fun h : b = S => hSf (by rw [← h]; exact hb))]; exact e
    · refine hR s'' (Moved.trans W.gtrans ((hm.mono hsub).then_heap (Nat.le_succ _) fun b o hb e => ?_) hm'') hS''
      rw [hsb.2 b (fun h : b = S => hb (by rw [h]; exact List.mem_cons_self))]; exact e
noncomputable abbrev freshO (w : World) : Obj := { cls := .type "set", dict := none, data := .set #[] 0 (.fresh 0 0 (!(byT w))) }
theorem new_J (a : Value) {Q₁ : Value → Shared → Prop} (h : Q₁ (.ref s.heap.objs.size) { s with heap := s.heap.push (freshO w) }) :
    codeAny (model prog w) A (.call (.builtin "set.__new__") ⟨[.type "set", a], []⟩) (wants Q₁ E) s := by
  refine codeAny_of_tree ?_
  show wpAny _ A.in1 (do checkBuiltinCall "set.__new__" ⟨[.type "set", a], []⟩; again (.builtin "set.__new__" ⟨[.type "set", a], []⟩)) _ _ s
  refine wpAny_bind (wpAny_of_eq (PySem.F.newCall_set_1 a) (wpAny_pure ⟨plainId_quiet PySem.F.plain_set_new _, codeAny_builtin PySem.F.entry_set_new ?_⟩))
  rw [Around.under_plainId PySem.F.plain_set_new _]
  unfold Builtin.«set.__new__» Builtin.Frozenset.newClass
  have hsub := sub_set_self
  obtain ⟨hp, g, d, tk, os⟩ := s
  dsimp only
  wp_walk
  refine wpAny_askSetting (wpAny_pure ?_)
  dsimp only
  simp only [newObj]
  refine wpAny_bind (wpAny_alloc (wpAny_pure ?_))
  exact wpAny_pure h
theorem setJ_fresh : SetJ prog w (s.heap.push (freshO w)) s.heap.objs.size (met (fun _ => 0) 0) 0 :=
  ⟨_, #[], 0, _, Heap.get?_push_size _ rfl, ⟨rfl, rfl, rfl⟩, rfl, fun e he => by simp at he, fun k => ⟨fun h => by simp [met, firstMet] at h, fun ⟨e, he, _⟩ => by simp at he⟩, by decide, rfl, rfl, rfl, List.Pairwise.nil⟩
theorem make_J {l : Addr} {items : Array Value} {ns : List Int} {Q : Value → Shared → Prop} (hh : A.handled = none) (hl : s.heap.IsList l items) (hi : IntsAre items.toList ns) (hb : items.size + 1 < scanBound)
    (h : ∀ (h' : Heap) (tk : Nat), SetJ prog w h' s.heap.objs.size (met (fun i => ns.getD i 0) items.size) (firstMet (fun i => ns.getD i 0) items.size).length →
      (∀ b o, b < s.heap.objs.size → s.heap.get? b = some o → h'.get? b = some o) → Q (.ref s.heap.objs.size) { s with heap := h', toks := tk }) :
    wpAny (model prog w) A (call (.type "set") [.ref l]) Q E s := by
  obtain ⟨c, tl, hmro⟩ := PySem.F.called_set.mro
  have hmade := PySem.F.called_set.made
  have hsub := PySem.F.called_set.sub
  refine wpAny_call (codeAny_of_tree ?_)
  show wpAny _ _ (callAny (.type "set") _) _ _ _
  refine wpAny_pure ⟨Code.quiet_builtin _ (by decide +kernel), codeAny_builtin PySem.F.entry_type_call ?_⟩
  rw [Around.under_plain (weight_type_call_type "set" [.ref l] []) rfl]
  have h1 := PySem.F.called_set.notType
  have h2 := PySem.F.called_set.canCreate
  have hct := PySem.F.typeCall_set_1 (.ref l)
  repeat (any_goals (first | assumption | wp_step))
  refine codeAny_mono (new_J (.ref l) (E := E) (Q₁ := fun obj s₁ => obj = .ref s.heap.objs.size ∧ s₁ = { s with heap := s.heap.push (freshO w) }) ⟨rfl, rfl⟩) fun r s₁ hr => ?_
  cases r with
  | error e => exact hr
  | ok fl =>
    cases fl with
    | ret obj =>
      obtain ⟨rfl, rfl⟩ := hr
      have hS : (s.heap.push (freshO w)).get? s.heap.objs.size = some (freshO w) := Heap.get?_push_size _ rfl
      have hT : Shared.TypeIs { s with heap := s.heap.push (freshO w) } (.ref s.heap.objs.size) "set" := ⟨_, hS, rfl⟩
      have hli := PySem.F.called_set.init.lookup
      have hbi := PySem.F.called_set.init.bind (.ref s.heap.objs.size)
      repeat (any_goals (first | assumption | wp_step))
      refine codeAny_mono (codeAny_call_builtin (R := wants (fun r s₂ => r = .none ∧ ∃ h' tk, s₂ = { s with heap := h', toks := tk } ∧
          SetJ prog w h' s.heap.objs.size (met (fun i => ns.getD i 0) items.size) (firstMet (fun i => ns.getD i 0) items.size).length ∧
          (∀ b o, b < s.heap.objs.size → s.heap.get? b = some o → h'.get? b = some o)) E) PySem.F.called_set.init.plain PySem.F.entry_set_init (check_set_init_1 hT ?_)) fun r₂ s₂ hr₂ => ?_
      · obtain ⟨ol, hol, hcl, nl, hdl⟩ := hl
        obtain ⟨ocls, odict, odata, oslots⟩ := ol
        simp only at hcl hdl
        subst hcl; subst hdl
        have hol' : (s.heap.push (freshO w)).get? l = some { cls := .type "list", dict := odict, data := .seq items nl, slots := oslots } := Heap.get?_push_of_some _ hol
        have hsls := PySem.F.sub_list_set
        have hslf := PySem.F.sub_list_frozenset
        have hne : (Value.type "list" == Value.type "dict") = false := by decide
        have hl1 : (s.heap.push (freshO w)).IsList l items := ⟨_, hol', rfl, nl, rfl⟩
        unfold Builtin.«set.__init__» noKeywords Builtin.Frozenset.updateFrom
        generalize hPI : pyIter = PI
        wp_walk
        subst hPI
        refine wpAny_pyIter_list hl1 ?_
        refine wpAny_bind (wpAny_runValue ?_)
        have hlS : l < s.heap.objs.size := Heap.lt_size hol
        have hh3 : A.in1.in1.in1.handled = none := by simp [hh]
        have hneI : l ≠ (s.heap.push (freshO w)).objs.size := by
          rw [Heap.size_push]; exact Nat.ne_of_lt (Nat.lt_succ_of_lt hlS)
        have hSf : s.heap.objs.size ∉ [(s.heap.push (freshO w)).objs.size, l] := by
          rw [Heap.size_push]; simp only [List.mem_cons, List.mem_singleton, List.not_mem_nil, or_false, not_or]
          exact ⟨Nat.ne_of_lt (Nat.lt_succ_self _), Nat.ne_of_gt hlS⟩
        have hval : ∀ (i : Nat) (v : Value), items[i]? = some v → ∃ t, v = .int ((fun i => ns.getD i 0) i) t := fun i v hv =>
          IntsAre.int_at hi i v (by rw [Array.getElem?_toList]; exact hv)
        refine upd_J ((Walks.list hh3 _ l hneI items).toS) s.heap.objs.size
          hSf (fun i => ns.getD i 0) hval hb (items.size - 0) 0 _ (by lia) (Nat.zero_le _)
          ⟨⟨_, Heap.get?_push_size _ rfl, rfl, rfl⟩, (hl1.push _)⟩ ?hS0 ?hR
        case hS0 => exact setJ_at setJ_fresh fun o e => Heap.get?_push_of_some _ e
        case hR =>
          intro s' hm hS'
          obtain ⟨h', g', d', tk', os'⟩ := s'
          have eg : g' = s.gens := hm.gens
          have ed : d' = s.drawn := hm.drawn
          have eo : os' = s.os := hm.os
          subst eg; subst ed; subst eo
          show wpAny _ _ _ _ _ _
          refine wpAny_pure ?_
          show wpAny _ _ (ret Value.none) _ _ _
          refine wpAny_pure ⟨rfl, h', tk', rfl, hS', fun b o hb e => ?_⟩
          have hb1 : b ≠ s.heap.objs.size := Nat.ne_of_lt hb
          have hb2 : b ≠ (s.heap.push (freshO w)).objs.size := by
            rw [Heap.size_push]; exact Nat.ne_of_lt (Nat.lt_succ_of_lt hb)
          exact hm.heap b o (by simp only [List.mem_cons, List.mem_singleton, List.not_mem_nil, or_false, not_or]; exact ⟨hb1, hb2⟩) (Heap.get?_push_of_some _ (Heap.get?_push_of_some _ e))
      · cases r₂ with
        | error e => exact hr₂
        | ok fl₂ =>
          cases fl₂ with
          | ret r =>
            obtain ⟨rfl, h', tk, rfl, hS', hk'⟩ := hr₂
            repeat (any_goals (first | assumption | wp_step))
            exact h _ _ hS' hk'
          | _ => exact hr₂.elim
    | _ => exact hr.elim
end
end HS
namespace HS
open PySem PySem.W PySem.Calls PyProof.Rows
theorem sit_next : Slot "set_iterator" "__next__" "set_iterator.__next__" :=
  .of (owner := "set_iterator") (n := "__next__") (by rw [typeLookup_type, builtinLookup_eq_fast]; kernel_rfl) (by decide +kernel) (by decide +kernel) (by decide +kernel)
    (by first | exact .inl (by decide +kernel) | exact .inr (by decide +kernel)) (by rw [isSubtype_type]; kernel_rfl)
theorem sit_iter : Slot "set_iterator" "__iter__" "set_iterator.__iter__" :=
  .of (owner := "set_iterator") (n := "__iter__") (by rw [typeLookup_type, builtinLookup_eq_fast]; kernel_rfl) (by decide +kernel) (by decide +kernel) (by decide +kernel)
    (by first | exact .inl (by decide +kernel) | exact .inr (by decide +kernel)) (by rw [isSubtype_type]; kernel_rfl)
theorem sit_enext : entryFor table "set_iterator.__next__" = some Builtin.«set_iterator.__next__» := entryFor_of_tree (by kernel_rfl)
theorem sit_eiter : entryFor table "set_iterator.__iter__" = some Builtin.«dict_keyiterator.__iter__» :=
  entryFor_alias (id' := "dict_keyiterator.__iter__") (by kernel_rfl) rfl (by decide +kernel) (by kernel_rfl)
theorem set_eiter : entryFor table "set.__iter__" = some Builtin.«frozenset.__iter__» :=
  entryFor_alias (id' := "frozenset.__iter__") (by kernel_rfl) rfl (by decide +kernel) (by kernel_rfl)
theorem sit_own : Manifest.owners.lookup (String.ofList ['r', 'o', 't', 'a', 'r', 'e', 't', 'i', '_', 't', 'e', 's'].reverse) = some Manifest.sig_set_iterator := by kernel_rfl
theorem sit_anext (a : Value) : argsOk "set_iterator.__next__" ⟨[a], []⟩ := by
  unfold argsOk; rw [signature?_of (id := "set_iterator.__next__") (n := ['_', '_', 't', 'x', 'e', 'n', '_', '_']) (o := ['r', 'o', 't', 'a', 'r', 'e', 't', 'i', '_', 't', 'e', 's']) (by kernel_rfl) sit_own]; kernel_rfl
theorem sit_aiter (a : Value) : argsOk "set_iterator.__iter__" ⟨[a], []⟩ := by
  unfold argsOk; rw [signature?_of (id := "set_iterator.__iter__") (n := ['_', '_', 'r', 'e', 't', 'i', '_', '_']) (o := ['r', 'o', 't', 'a', 'r', 'e', 't', 'i', '_', 't', 'e', 's']) (by kernel_rfl) sit_own]; kernel_rfl
theorem erase_perm {α : Type} {l : List α} {i : Nat} (h : i < l.length) : (l[i] :: l.eraseIdx i).Perm l := by
  rw [List.eraseIdx_eq_take_drop_succ]
  refine List.perm_middle.symm.trans ?_
  rw [← List.drop_eq_getElem_cons h, List.take_append_drop]
theorem pick_go {α : Type} (f : Nat → Nat) : ∀ (n k : Nat) (l : List α) (out : Array α), l.length = n → ∃ l', l'.Perm l ∧ (pickOrder.go f n k l out).toList = out.toList ++ l'
  | 0, k, l, out, h => ⟨[], by rw [List.length_eq_zero_iff.mp h], by rw [pickOrder.go]; simp⟩
  | n + 1, k, l, out, h => by
    have hl : f k % l.length < l.length := Nat.mod_lt _ (by lia)
    obtain ⟨l', hp, e⟩ := pick_go f n (k + 1) (l.eraseIdx (f k % l.length)) (out.push l[f k % l.length]) (by rw [List.length_eraseIdx_of_lt hl]; lia)
    refine ⟨l[f k % l.length] :: l', (hp.cons _).trans (erase_perm hl), ?_⟩
    rw [pickOrder.go, List.getElem?_eq_getElem hl]
    dsimp only
    rw [e, Array.toList_push, List.append_assoc]; rfl
theorem pick_perm {α : Type} (f : Nat → Nat) (xs : Array α) : (pickOrder f xs).toList.Perm xs.toList := by
  obtain ⟨l', hp, e⟩ := pick_go f xs.size 0 xs.toList #[] (by simp)
  unfold pickOrder
  rw [e]; simpa using hp
section
variable {prog : Program} {w : World} {A : Around} {E : Value → Shared → Prop} {s : Shared}
theorem choose_wp {src : Source} {n : Nat} {Q : Nat → Shared → Prop} (h0 : 0 < n) (h : ∀ i, i < n → Q i { s with drawn := s.drawn.bump src }) : wpAny (model prog w) A (choose src n) Q E s :=
  fun Γ p hΓ => ⟨Nat.ne_of_gt h0, h _ (Nat.mod_lt _ h0)⟩
theorem draw_wp {α : Type} : ∀ (n : Nat) (l : List α) {Q : List α → Shared → Prop} {s : Shared}, l.length = n → (∀ l' d, l'.Perm l → Q l' { s with drawn := d }) → wpAny (model prog w) A (drawOrder n l) Q E s
  | 0, l, Q, s, hl, h => wpAny_pure (h [] s.drawn (by rw [List.length_eq_zero_iff.mp hl]))
  | n + 1, [], Q, s, hl, h => by simp at hl
  | n + 1, x :: l, Q, s, hl, h => by
    unfold drawOrder
    refine wpAny_bind (choose_wp (by simp) fun i hi => ?_)
    rw [List.getElem?_eq_getElem hi]
    dsimp only
    refine wpAny_bind (draw_wp n _ (by rw [List.length_eraseIdx_of_lt hi]; simp at hl ⊢; exact hl) fun l' d hp => wpAny_pure (h _ d ((hp.cons _).trans (erase_perm hi))))
noncomputable def SAt (h : Heap) (a : Addr) (es : Array (Int × Value)) (ep : Nat) (t : SetTable) : Prop := ∃ o, h.get? a = some o ∧ o.cls = .type "set" ∧ o.data = .set es ep t
noncomputable abbrev sit (f : Value) (i : Nat) (a : Addr) (n ep : Nat) : Obj := { cls := .type "set_iterator", data := .fields #[f, .int i 0, .ref a, .int n 0, .int ep 0] }
noncomputable def nextOf (w : World) (a : Addr) (es : Array (Int × Value)) (ep : Nat) (t : SetTable) (sl i : Nat) : Option (Value × Nat) :=
  if byT w = true then ((pickOrder (w.params.setOrder a ep) es)[i]?).map fun e => (e.2, sl) else
    match es[SetTable.below t.place sl]?, t.place[SetTable.below t.place sl]? with
    | some (_, x), some j => some (x, j + 1)
    | _, _ => none
theorem next_wp {a : Addr} {es : Array (Int × Value)} {ep : Nat} {t : SetTable} {sl i : Nat} {Q : Option (Value × Nat) → Shared → Prop} (hs : SAt s.heap a es ep t) (hf : t.fits es.size = true)
    (hd : byT w = false → t.led = true ∧ ¬ ((!t.plain && decide (es.size > 1)) = true)) (h : Q (nextOf w a es ep t sl i) s) : wpAny (model prog w) A (setNext a sl i ep) Q E s := by
  obtain ⟨o, ho, _, hdat⟩ := hs
  unfold setNext
  refine wpAny_bind (wpAny_setState_of ho hdat hf ?_)
  dsimp only
  unfold setsByText
  refine wpAny_bind (wpAny_bind (wpAny_askSetting (wpAny_pure ?_)))
  show wpAny _ _ (if byT w = true then _ else _) _ _ _
  unfold nextOf at h
  cases hb : byT w with
  | true =>
    rw [hb] at h
    simp only [↓reduceIte] at h ⊢
    rw [if_neg (by simp)]
    unfold setWalk
    refine wpAny_bind (wpAny_bind (wpAny_setState_of ho hdat hf ?_))
    dsimp only
    unfold setsByText
    refine wpAny_bind (wpAny_bind (wpAny_askSetting (wpAny_pure ?_)))
    show wpAny _ _ (if byT w = true then _ else _) _ _ _
    rw [if_pos hb]
    exact wpAny_bind (wpAny_askSetting (wpAny_pure (wpAny_pure h)))
  | false =>
    rw [hb] at h
    simp only [Bool.false_eq_true, ↓reduceIte] at h ⊢
    obtain ⟨hl, hn⟩ := hd hb
    refine wpAny_ite_split (fun z => absurd z hn) (fun _ => ?_)
    refine wpAny_bind ?_
    show wpAny _ _ (if (!t.led && !es.isEmpty) = true then unsupported "set:maker-not-led" else pure PUnit.unit) _ _ _
    rw [if_neg (by rw [hl]; simp)]
    exact wpAny_pure (wpAny_pure h)
theorem pyn_item {I a : Addr} {es : Array (Int × Value)} {ep : Nat} {t : SetTable} {sl i nx : Nat} {x : Value} {Q : Option Value → Shared → Prop} (hI : s.heap.get? I = some (sit (.int sl 0) i a es.size ep)) (hne : a ≠ I) (hs : SAt s.heap a es ep t) (hf : t.fits es.size = true)
    (hd : byT w = false → t.led = true ∧ ¬ ((!t.plain && decide (es.size > 1)) = true)) (hx : nextOf w a es ep t sl i = some (x, nx))
    (h : ∀ h', h'.get? I = some (sit (.int nx 0) (i + 1) a es.size ep) → (∀ b o, b ≠ I → s.heap.get? b = some o → h'.get? b = some o) → Q (some x) { s with heap := h' }) : wpAny (model prog w) A (pyNext (.ref I)) Q E s := by
  have hT : s.TypeIs (.ref I) "set_iterator" := ⟨_, hI, rfl⟩
  unfold pyNext
  refine wpAny_bind (wpAny_attempt (wpAny_callSpecial?_slot (name := Str.ofString "__next__") hT sit_next (wpAny_call_entry sit_next hT sit_enext ?_ (sit_anext _))))
  unfold Builtin.«set_iterator.__next__»
  refine wpAny_bind (m := slotArgs "__next__" 0 _) (wpAny_pure ?_)
  refine wpAny_bind (wpAny_fieldsOf hI rfl ?_)
  dsimp only
  have hs' := hs
  obtain ⟨o, ho, _, hdat⟩ := hs'
  unfold setEntries
  refine wpAny_bind (wpAny_bind (wpAny_setState_of ho hdat hf (wpAny_pure ?_)))
  dsimp only
  rw [if_neg (by simp)]
  refine wpAny_bind (next_wp (sl := sl) (i := i) (ep := ep) hs hf hd ?_)
  rw [hx]
  dsimp only
  refine wpAny_bind (wpAny_setField_rec hI (by simp) fun h1 e1 k1 => ?_)
  refine wpAny_bind (wpAny_setField_rec e1 (by simp) fun h2 e2 k2 => ?_)
  refine wpAny_pure ⟨_, rfl, wpAny_pure (h h2 ?_ fun b o hb e => ?_)⟩
  · rw [e2]; simp [rawInt, sit]
  · exact k2.extBut b o hb (k1.extBut b o hb e)
theorem pyn_end {I a : Addr} {es : Array (Int × Value)} {ep : Nat} {t : SetTable} {sl i : Nat} {Q : Option Value → Shared → Prop} (hh : A.handled = none) (hI : s.heap.get? I = some (sit (.int sl 0) i a es.size ep)) (hs : SAt s.heap a es ep t) (hf : t.fits es.size = true)
    (hd : byT w = false → t.led = true ∧ ¬ ((!t.plain && decide (es.size > 1)) = true)) (hx : nextOf w a es ep t sl i = none)
    (h : ∀ h', (∀ b o, b ≠ I → s.heap.get? b = some o → h'.get? b = some o) → Q none { s with heap := h' }) : wpAny (model prog w) A (pyNext (.ref I)) Q E s := by
  have hT : s.TypeIs (.ref I) "set_iterator" := ⟨_, hI, rfl⟩
  unfold pyNext
  refine wpAny_bind (wpAny_attempt (wpAny_callSpecial?_slot (name := Str.ofString "__next__") hT sit_next (wpAny_call_entry sit_next hT sit_enext ?_ (sit_anext _))))
  unfold Builtin.«set_iterator.__next__»
  refine wpAny_bind (m := slotArgs "__next__" 0 _) (wpAny_pure ?_)
  refine wpAny_bind (wpAny_fieldsOf hI rfl ?_)
  dsimp only
  have hs' := hs
  obtain ⟨o, ho, _, hdat⟩ := hs'
  unfold setEntries
  refine wpAny_bind (wpAny_bind (wpAny_setState_of ho hdat hf (wpAny_pure ?_)))
  dsimp only
  rw [if_neg (by simp)]
  refine wpAny_bind (next_wp (sl := sl) (i := i) (ep := ep) hs hf hd ?_)
  rw [hx]
  dsimp only
  refine wpAny_bind (wpAny_setField hI rfl (by simp) ?_)
  refine wpAny_bind ?_
  simp only [newExc, newTuple]
  refine wpAny_bind (wpAny_newObj_type ?_ (by size_fits))
  refine wpAny_bind (m := firstArgMember _ _) (wpAny_of_eq (a := Value.none) (by first | rfl | (simp only [firstArgMember]; rfl)) ?_)
  refine wpAny_newObj_type ?_ (by size_fits)
  simp only [raiseNew]
  refine wpAny_bind (wpAny_handled ?_)
  rw [show A.in1.handled = none from hh]
  refine wpAny_bind (wpAny_pure (wpAny_throw ?_))
  refine wpAny_bind (wpAny_isInstance (T := "StopIteration") (b := true) ⟨_, Heap.get?_push_size _ rfl, rfl⟩ isSubtype_stop ?_)
  exact wpAny_pure (h _ (((Heap.SameBut.update ..).extBut.push _).push _))
end
end HS
namespace HS
open PySem PySem.W PySem.Calls PyProof.Rows
section
variable {prog : Program} {w : World} {A : Around} {E : Value → Shared → Prop} {s : Shared}
theorem pyi_self {I a : Addr} {f : Value} {i n ep : Nat} {Q : Value → Shared → Prop} (hI : s.heap.get? I = some (sit f i a n ep)) (h : Q (.ref I) s) : wpAny (model prog w) A (pyIter (.ref I)) Q E s := by
  have hT : s.TypeIs (.ref I) "set_iterator" := ⟨_, hI, rfl⟩
  refine wpAny_pyIter_slot hT sit_iter (wpAny_call_entry sit_iter hT sit_eiter ?_ (sit_aiter _))
  show wpAny _ _ (ret (.ref I)) _ _ s
  exact wpAny_pure ⟨_, rfl, "set_iterator", _, hT, sit_next.lookup, h⟩
theorem pyd_item {I a tp : Addr} {es : Array (Int × Value)} {ep : Nat} {t : SetTable} {i p c : Nat} {tk : Tok} {h0 : Int} {x : Value} {its : Array Value} {Q : Option Value → Shared → Prop} (hI : s.heap.get? I = some (sit (.ref tp) i a es.size ep)) (hs : SAt s.heap a es ep t) (hf : t.fits es.size = true)
    (hp : ∃ o, s.heap.get? tp = some o ∧ o.data = .seq its c) (hi : its[i]? = some (.int (p : Nat) tk)) (hx : es[p]? = some (h0, x))
    (h : ∀ h', h'.get? I = some (sit (.ref tp) (i + 1) a es.size ep) → (∀ b o, b ≠ I → s.heap.get? b = some o → h'.get? b = some o) → Q (some x) { s with heap := h' }) : wpAny (model prog w) A (pyNext (.ref I)) Q E s := by
  have hT : s.TypeIs (.ref I) "set_iterator" := ⟨_, hI, rfl⟩
  unfold pyNext
  refine wpAny_bind (wpAny_attempt (wpAny_callSpecial?_slot (name := Str.ofString "__next__") hT sit_next (wpAny_call_entry sit_next hT sit_enext ?_ (sit_anext _))))
  unfold Builtin.«set_iterator.__next__»
  refine wpAny_bind (m := slotArgs "__next__" 0 _) (wpAny_pure ?_)
  refine wpAny_bind (wpAny_fieldsOf hI rfl ?_)
  dsimp only
  have hs' := hs
  obtain ⟨o, ho, _, hdat⟩ := hs'
  obtain ⟨op, hop, hpd⟩ := hp
  unfold setEntries
  refine wpAny_bind (wpAny_bind (wpAny_setState_of ho hdat hf (wpAny_pure ?_)))
  dsimp only
  rw [if_neg (by simp)]
  refine wpAny_bind (wpAny_seqItems hop hpd ?_)
  dsimp only
  rw [Int.toNat_natCast, hi]
  dsimp only
  refine wpAny_bind ?_
  unfold setNextDrawn
  refine wpAny_bind (wpAny_setState_of ho hdat hf ?_)
  dsimp only
  rw [if_neg (by simp), Int.toNat_natCast, hx]
  refine wpAny_pure ?_
  refine wpAny_bind (wpAny_setField_rec hI (by simp) fun h1 e1 k1 => ?_)
  refine wpAny_pure ⟨_, rfl, wpAny_pure (h h1 ?_ fun b o hb e => k1.extBut b o hb e)⟩
  rw [e1]; simp [rawInt, sit]
theorem pyd_end {I a tp : Addr} {es : Array (Int × Value)} {ep : Nat} {t : SetTable} {i c : Nat} {its : Array Value} {Q : Option Value → Shared → Prop} (hh : A.handled = none) (hI : s.heap.get? I = some (sit (.ref tp) i a es.size ep)) (hs : SAt s.heap a es ep t) (hf : t.fits es.size = true)
    (hp : ∃ o, s.heap.get? tp = some o ∧ o.data = .seq its c) (hi : its[i]? = none)
    (h : ∀ h', (∀ b o, b ≠ I → s.heap.get? b = some o → h'.get? b = some o) → Q none { s with heap := h' }) : wpAny (model prog w) A (pyNext (.ref I)) Q E s := by
  have hT : s.TypeIs (.ref I) "set_iterator" := ⟨_, hI, rfl⟩
  unfold pyNext
  refine wpAny_bind (wpAny_attempt (wpAny_callSpecial?_slot (name := Str.ofString "__next__") hT sit_next (wpAny_call_entry sit_next hT sit_enext ?_ (sit_anext _))))
  unfold Builtin.«set_iterator.__next__»
  refine wpAny_bind (m := slotArgs "__next__" 0 _) (wpAny_pure ?_)
  refine wpAny_bind (wpAny_fieldsOf hI rfl ?_)
  dsimp only
  have hs' := hs
  obtain ⟨o, ho, _, hdat⟩ := hs'
  obtain ⟨op, hop, hpd⟩ := hp
  unfold setEntries
  refine wpAny_bind (wpAny_bind (wpAny_setState_of ho hdat hf (wpAny_pure ?_)))
  dsimp only
  rw [if_neg (by simp)]
  refine wpAny_bind (wpAny_seqItems hop hpd ?_)
  dsimp only
  rw [Int.toNat_natCast, hi]
  dsimp only
  refine wpAny_bind (wpAny_setField_rec hI (by simp) fun h1 e1 k1 => ?_)
  refine wpAny_bind (wpAny_setField_rec e1 (by simp) fun h2 e2 k2 => ?_)
  refine wpAny_bind ?_
  simp only [newExc, newTuple]
  refine wpAny_bind (wpAny_newObj_type ?_ (by size_fits))
  refine wpAny_bind (m := firstArgMember _ _) (wpAny_of_eq (a := Value.none) (by first | rfl | (simp only [firstArgMember]; rfl)) ?_)
  refine wpAny_newObj_type ?_ (by size_fits)
  simp only [raiseNew]
  refine wpAny_bind (wpAny_handled ?_)
  rw [show A.in1.handled = none from hh]
  refine wpAny_bind (wpAny_pure (wpAny_throw ?_))
  refine wpAny_bind (wpAny_isInstance (T := "StopIteration") (b := true) ⟨_, Heap.get?_push_size _ rfl, rfl⟩ isSubtype_stop ?_)
  exact wpAny_pure (h _ (((k1.trans k2).extBut.push _).push _))
theorem SAt.at' {h h' : Heap} {a : Addr} {es : Array (Int × Value)} {ep : Nat} {t : SetTable} (x : SAt h a es ep t) (k : ∀ o, h.get? a = some o → h'.get? a = some o) : SAt h' a es ep t := let ⟨o, ho, r⟩ := x; ⟨o, k _ ho, r⟩
theorem walkA (hh : A.handled = none) {I a : Addr} (hne : a ≠ I) {es ws : Array (Int × Value)} {ep : Nat} {t : SetTable} (hf : t.fits es.size = true) (hd : byT w = false → t.led = true ∧ ¬ ((!t.plain && decide (es.size > 1)) = true)) (sl : Nat → Nat)
    (hn : ws.size = es.size) (hx : ∀ i e, ws[i]? = some e → nextOf w a es ep t (sl i) i = some (e.2, sl (i + 1))) (he : nextOf w a es ep t (sl es.size) es.size = none) :
    Walks prog w A I [I, a] [I] es.size (fun i v => ∃ e, ws[i]? = some e ∧ v = e.2) (fun i h => h.get? I = some (sit (.int (sl i : Nat) 0) i a es.size ep) ∧ SAt h a es ep t) where
  sub := fun b hb => by simp at hb; simp [hb]
  frame := fun _ _ _ st hk => ⟨hk I (by simp) _ st.1, st.2.at' fun o e => hk a (by simp) o e⟩
  item := fun i s Q E hi st hQ => by
    have e : ws[i]? = some ws[i] := Array.getElem?_eq_getElem (by lia)
    refine pyn_item st.1 hne st.2 hf hd (hx i _ e) fun h' e' k => ?_
    exact hQ _ h' s.toks ⟨_, e, rfl⟩ ⟨e', st.2.at' fun o q => k a o hne q⟩ fun b o hb q => k b o (fun z => hb (by simp [z])) q
  done := fun s Q E st hQ => pyn_end hh st.1 st.2 hf hd he fun h' k => hQ h' s.toks fun b o hb q => k b o (fun z => hb (by simp [z])) q
  self := fun _ _ _ _ st hQ => pyi_self st.1 hQ
theorem walkD (hh : A.handled = none) {I a tp : Addr} (hne : a ≠ I) (hnt : tp ≠ I) {es : Array (Int × Value)} {ep c : Nat} {t : SetTable} (hf : t.fits es.size = true) {ps : List Nat} {its : Array Value} (hn : ps.length = es.size) (hi : ∀ (i p : Nat), ps[i]? = some p → ∃ tk : Tok, its[i]? = some (Value.int (p : Nat) tk)) (hz : its.size = ps.length)
    (hp : ∀ p ∈ ps, p < es.size) :
    Walks prog w A I [I, a, tp] [I] es.size (fun i v => ∃ p e, ps[i]? = some p ∧ es[p]? = some e ∧ v = e.2) (fun i h => h.get? I = some (sit (.ref tp) i a es.size ep) ∧ SAt h a es ep t ∧ ∃ o, h.get? tp = some o ∧ o.data = .seq its c) where
  sub := fun b hb => by simp at hb; simp [hb]
  frame := fun _ _ _ st hk => ⟨hk I (by simp) _ st.1, st.2.1.at' fun o e => hk a (by simp) o e, let ⟨o, ho, hd⟩ := st.2.2; ⟨o, hk tp (by simp) o ho, hd⟩⟩
  item := fun i s Q E hi' st hQ => by
    have e : ps[i]? = some ps[i] := List.getElem?_eq_getElem (by lia)
    have hl := hp ps[i] (List.getElem_mem _)
    have e2 : es[ps[i]]? = some es[ps[i]] := Array.getElem?_eq_getElem hl
    obtain ⟨tk, e3⟩ := hi i _ e
    refine pyd_item st.1 st.2.1 hf st.2.2 e3 (h0 := es[ps[i]].1) (x := es[ps[i]].2) e2 fun h' e' k => ?_
    exact hQ _ h' s.toks ⟨_, _, e, e2, rfl⟩ ⟨e', st.2.1.at' fun o q => k a o hne q, let ⟨o, ho, hd⟩ := st.2.2; ⟨o, k tp o hnt ho, hd⟩⟩ fun b o hb q => k b o (fun z => hb (by simp [z])) q
  done := fun s Q E st hQ => pyd_end hh st.1 st.2.1 hf st.2.2 (Array.getElem?_eq_none (by lia)) fun h' k => hQ h' s.toks fun b o hb q => k b o (fun z => hb (by simp [z])) q
  self := fun _ _ _ _ st hQ => pyi_self st.1 hQ
theorem set_hint {r : Addr} {Q : Bool → Shared → Prop} (hT : s.TypeIs (.ref r) "set") (h : Q false s) : wpAny (model prog w) A (Builtin.List.listLengthHint (.ref r)) Q E s := by
  unfold Builtin.List.listLengthHint
  refine wpAny_bind (wpAny_specialOf hT PySem.F.slot_set_len.lookup ?_)
  generalize hid : ("set.__len__" : String) = id0
  wp_delta
  rw [show splitId id0 = some ("set", "__len__") from by subst hid; decide +kernel]
  subst hid
  refine wpAny_bind (wpAny_isInstance (T := "set") (b := true) hT (by rw [isSubtype_type]; kernel_rfl) ?_)
  refine wpAny_ite_split (fun hab => absurd hab (by decide)) (fun _ => ?_)
  refine wpAny_ite_split (fun _ => ?_) (fun hab => absurd (by decide +kernel) hab)
  refine wpAny_bind (wpAny_typeOf hT ?_)
  exact wpAny_pure h
noncomputable def WalkOf (prog : Program) (w : World) (A : Around) (a : Addr) (es : Array (Int × Value)) (h0 h1 : Heap) (I : Addr) : Prop :=
  ∃ (fp wr : List Addr) (vs : List Value) (St : Nat → Heap → Prop), (∀ b o, h0.get? b = some o → h1.get? b = some o) ∧ h0.objs.size ≤ I ∧ (∀ b ∈ fp, b = a ∨ h0.objs.size ≤ b) ∧ (∀ b ∈ wr, h0.objs.size ≤ b) ∧ vs.Perm (es.toList.map (·.2)) ∧
    Walks prog w A I fp wr es.size (fun i v => vs[i]? = some v) St ∧ St 0 h1
theorem Walks.sub' {I : Addr} {fp wr : List Addr} {n : Nat} {P P' : Nat → Value → Prop} {St : Nat → Heap → Prop} (W : Walks prog w A I fp wr n P St) (hp : ∀ i v, P i v → P' i v) : Walks prog w A I fp wr n P' St where
  sub := W.sub
  frame := W.frame
  item := fun i s Q E hi st hQ => W.item i s Q E hi st fun v h' tk hv => hQ v h' tk (hp i v hv)
  done := W.done
  self := W.self
theorem iter_J {B : Around} (hh : B.handled = none) {a : Addr} {es : Array (Int × Value)} {ep : Nat} {t : SetTable} {Q : Value → Shared → Prop} (hs : SAt s.heap a es ep t) (hf : t.fits es.size = true) (hT : TOk (!(byT w)) t) (hz : es.size ≤ sizeLine)
    (h : ∀ (I : Addr) (h1 : Heap) (d : Drawn), WalkOf prog w B a es s.heap h1 I → Q (.ref I) { s with heap := h1, drawn := d }) : wpAny (model prog w) A (pyIter (.ref a)) Q E s := by
  have hs' := hs
  obtain ⟨o, ho, hc, hdat⟩ := hs'
  have hla : a < s.heap.objs.size := Heap.lt_size ho
  have hTy : s.TypeIs (.ref a) "set" := ⟨o, ho, hc⟩
  refine wpAny_pyIter_slot hTy PySem.F.slot_set_iter (wpAny_call_entry PySem.F.slot_set_iter hTy set_eiter ?_ (PySem.F.args_set_iter_1 _))
  unfold Builtin.«frozenset.__iter__»
  refine wpAny_bind (m := Builtin.Frozenset.slot0 "__iter__" _) (wpAny_pure ?_)
  refine wpAny_bind ?_
  unfold Builtin.Frozenset.sizeOf setEntries
  refine wpAny_bind (wpAny_bind (wpAny_setState_of ho hdat hf (wpAny_pure (wpAny_pure ?_))))
  refine wpAny_bind ?_
  unfold setDrawn setsByText
  refine wpAny_bind (wpAny_setState_of ho hdat hf ?_)
  refine wpAny_bind (wpAny_bind (wpAny_askSetting (wpAny_pure ?_)))
  refine wpAny_pure ?_
  have fits := hf
  simp only [SetTable.fits, Bool.and_eq_true, beq_iff_eq, decide_eq_true_eq] at fits
  cases hdr : (!(byT w) && (!t.plain && decide (es.size > 1))) with
  | true =>
    refine wpAny_ite_split (fun _ => ?_) (fun z => absurd hdr z)
    refine wpAny_bind (draw_wp _ _ List.length_range fun ps d hp => ?_)
    refine wpAny_bind ?_
    have hpl : ps.length = es.size := by rw [hp.length_eq]; simp
    refine wpAny_newTuple ?_ (by rw [List.length_map, hpl]; exact hz)
    have ho1 := Heap.get?_push_of_some (h := s.heap) { cls := .type "tuple", data := .seq (ps.map fun (i : Nat) => rawInt i).toArray } ho
    refine wpAny_bind ?_
    unfold setEpoch
    refine wpAny_bind (wpAny_setState_of ho1 hdat hf (wpAny_pure ?_))
    refine wpAny_bind (wpAny_newObj_type (wpAny_pure ⟨_, rfl, "set_iterator", _, ⟨_, Heap.get?_push_size _ rfl, rfl⟩, sit_next.lookup, ?_⟩))
    refine h _ _ d ⟨[_, a, s.heap.objs.size], [_], ps.map (fun p => (es.getD p (0, .none)).2), _, fun b o e => Heap.get?_push_of_some _ (Heap.get?_push_of_some _ e), ?_, ?_, ?_, ?_, Walks.sub' (walkD (I := (s.heap.push { cls := .type "tuple", data := .seq (ps.map fun (i : Nat) => rawInt i).toArray }).objs.size) (tp := s.heap.objs.size) (its := (ps.map fun (i : Nat) => rawInt i).toArray) (ps := ps) (ep := ep) (c := 0) hh ?_ ?_ hf hpl ?_ ?_ ?_) ?_, ?_⟩
    · rw [Heap.size_push]; exact Nat.le_succ _
    · intro b hb
      rw [Heap.size_push] at hb
      simp only [List.mem_cons, List.not_mem_nil, or_false] at hb
      rcases hb with rfl | rfl | rfl
      · exact .inr (Nat.le_succ _)
      · exact .inl rfl
      · exact .inr (Nat.le_refl _)
    · intro b hb
      rw [Heap.size_push] at hb
      simp only [List.mem_cons, List.not_mem_nil, or_false] at hb
      subst hb; exact Nat.le_succ _
    · have h1 := hp.map (fun p => (es.getD p (0, Value.none)).2)
      refine h1.trans ?_
      have : (List.range es.size).map (fun p => (es.getD p (0, Value.none)).2) = es.toList.map (·.2) := by
        refine List.ext_getElem (by simp) fun i h1 h2 => ?_
        simp at h1 h2 ⊢
        simp [Array.getD, h1]
      rw [this]
    · rw [Heap.size_push]; exact Nat.ne_of_lt (Nat.lt_succ_of_lt hla)
    · rw [Heap.size_push]; exact Nat.ne_of_lt (Nat.lt_succ_self _)
    · intro i p e
      exact ⟨0, by rw [List.getElem?_toArray, List.getElem?_map, e]; rfl⟩
    · simp
    · intro p hp'
      have := hp.mem_iff.mp hp'
      simpa using this
    · rintro i v ⟨p, e, h1, h2, rfl⟩
      rw [List.getElem?_map, h1]
      simp only [Option.map_some, Option.some.injEq]
      rw [Array.getD_eq_getD_getElem?, h2]; rfl
    · refine ⟨?_, ⟨o, Heap.get?_push_of_some _ ho1, hc, hdat⟩, _, Heap.get?_push_of_some _ (Heap.get?_push_size _ rfl), rfl⟩
      exact Heap.get?_push_size (s.heap.push { cls := .type "tuple", data := .seq (ps.map fun (i : Nat) => rawInt i).toArray }) (o := sit (.ref s.heap.objs.size) 0 a es.size ep) rfl
  | false =>
    refine wpAny_ite_split (fun z => absurd (show (!(byT w) && (!t.plain && decide (es.size > 1))) = true from z) (by rw [hdr]; decide)) (fun _ => ?_)
    refine wpAny_bind (wpAny_pure ?_)
    refine wpAny_bind ?_
    unfold setEpoch
    refine wpAny_bind (wpAny_setState_of ho hdat hf (wpAny_pure ?_))
    refine wpAny_bind (wpAny_newObj_type (wpAny_pure ⟨_, rfl, "set_iterator", _, ⟨_, Heap.get?_push_size _ rfl, rfl⟩, sit_next.lookup, ?_⟩))
    have hd : byT w = false → t.led = true ∧ ¬ ((!t.plain && decide (es.size > 1)) = true) := fun hb => ⟨by rw [hT.led, hb]; rfl, by rw [hb] at hdr; simpa using hdr⟩
    have fin : ∀ (ws : Array (Int × Value)) (sl : Nat → Nat), ws.toList.Perm es.toList → sl 0 = 0 → (∀ i e, ws[i]? = some e → nextOf w a es ep t (sl i) i = some (e.2, sl (i + 1))) → nextOf w a es ep t (sl es.size) es.size = none →
        WalkOf prog w B a es s.heap (s.heap.push (sit (.int 0 0) 0 a es.size ep)) s.heap.objs.size := fun ws sl hp h0 hx he => by
      have hws : ws.size = es.size := by have := hp.length_eq; simpa using this
      refine ⟨[s.heap.objs.size, a], [s.heap.objs.size], ws.toList.map (·.2), _, fun b o e => Heap.get?_push_of_some _ e, Nat.le_refl _, ?_, ?_, hp.map _, Walks.sub' (walkA (I := s.heap.objs.size) hh (Nat.ne_of_lt hla) hf hd sl hws hx he) ?_, ?_⟩
      · intro b hb
        simp only [List.mem_cons, List.not_mem_nil, or_false] at hb
        rcases hb with rfl | rfl
        · exact .inr (Nat.le_refl _)
        · exact .inl rfl
      · intro b hb
        simp only [List.mem_cons, List.not_mem_nil, or_false] at hb
        subst hb; exact Nat.le_refl _
      · rintro i v ⟨e, h1, rfl⟩
        rw [List.getElem?_map, Array.getElem?_toList, h1]; rfl
      · rw [h0]
        exact ⟨Heap.get?_push_size _ rfl, o, Heap.get?_push_of_some _ ho, hc, hdat⟩
    refine h _ _ s.drawn ?_
    cases hb : byT w with
    | true =>
      refine fin (pickOrder (w.params.setOrder a ep) es) (fun _ => 0) (pick_perm _ _) rfl (fun i e hi => ?_) ?_
      · unfold nextOf; rw [if_pos hb, hi]; rfl
      · have hl : (pickOrder (w.params.setOrder a ep) es).size = es.size := by have := (pick_perm (w.params.setOrder a ep) es).length_eq; simpa using this
        unfold nextOf; rw [if_pos hb, Array.getElem?_eq_none (by lia)]; rfl
    | false =>
      have hb' : ¬ byT w = true := by rw [hb]; decide
      have hri := hT.ri
      let sl : Nat → Nat := fun i => if i = 0 then 0 else t.place.getD (i - 1) 0 + 1
      have hbl : ∀ i, i ≤ es.size → SetTable.below t.place (sl i) = i := fun i hi => by
        cases i with
        | zero => exact below_zero hri
        | succ i =>
          have hl : i < t.place.size := by lia
          have e : t.place[i]? = some t.place[i] := Array.getElem?_eq_getElem hl
          show SetTable.below t.place (t.place.getD i 0 + 1) = i + 1
          rw [Array.getD_eq_getD_getElem?, e]
          exact below_next hri e
      refine fin es sl (List.Perm.refl _) rfl (fun i e hi => ?_) ?_
      · have hl := (Array.getElem?_eq_some_iff.mp hi).1
        have e2 : t.place[i]? = some t.place[i] := Array.getElem?_eq_getElem (by lia)
        unfold nextOf
        rw [if_neg hb', hbl i (by lia), hi, e2]
        show some (e.2, t.place[i] + 1) = some (e.2, t.place.getD i 0 + 1)
        rw [Array.getD_eq_getD_getElem?, e2]; rfl
      · unfold nextOf
        rw [if_neg hb', hbl es.size (Nat.le_refl _), Array.getElem?_eq_none (Nat.le_refl _)]
end
end HS
namespace HS
open PySem PySem.W PySem.Calls PyProof.Rows
section
variable {prog : Program} {w : World} {A : Around} {E : Value → Shared → Prop} {s : Shared} {a : Addr} {es : Array (Int × Value)} {ep : Nat} {t : SetTable}
theorem extendJ {R : Result → Shared → Prop} (hh : A.handled = none) (hs : SAt s.heap a es ep t) (hf : t.fits es.size = true) (hT : TOk (!(byT w)) t) (S : Addr) (hSa : S ≠ a) (res : Value) (c₀ : Nat) (hS : s.heap.get? S = some { cls := .type "list", data := .seq #[] c₀ })
    (hR : ∀ h' tk d acc' c', (∀ b o, b ≠ S → s.heap.get? b = some o → h'.get? b = some o) → h'.get? S = some { cls := .type "list", dict := none, data := .seq acc' c', slots := #[] } → acc'.toList.Perm (es.toList.map (·.2)) → R (.ok (.ret res)) { s with heap := h', toks := tk, drawn := d }) (hn : es.size ≤ sizeLine) :
    wpAny (model prog w) A.in1 (Builtin.List.listExtendWith (.ref S) (.ref a) res)
      (fun fin s' => match fin with | .done f => R (.ok f) s' | .again c' => c'.quiet = true ∧ codeAny (model prog w) A c' R s') (fun e s' => R (.error e) s') s := by
  have hTy : ∀ {h1 : Heap} {d : Drawn}, SAt h1 a es ep t → Shared.TypeIs { s with heap := h1, drawn := d } (.ref a) "set" := fun ⟨o, ho, hc, _⟩ => ⟨o, ho, hc⟩
  unfold Builtin.List.listExtendWith
  refine wpAny_bind (wpAny_typeOf (T := "set") (hTy hs) ?_)
  have h1 : Builtin.List.listSameRef (.ref S) (.ref a) = false := by simp [Builtin.List.listSameRef, hSa]
  simp only [h1, show (Value.type "set" == Value.type "list") = false by decide, show (Value.type "set" == Value.type "tuple") = false by decide, Bool.or_false, Bool.false_eq_true, if_false]
  refine wpAny_bind (iter_J (B := A.in1) hh hs hf hT hn fun I hp d hh => ?_)
  obtain ⟨fp, wr, vs, St, kept, hI, hfp, hwr, hvs, W, st⟩ := hh
  have hSl := Heap.lt_size hS
  have hSf : S ∉ fp := fun z => (hfp S z).elim hSa fun z => absurd hSl (Nat.not_lt.mpr z)
  have hvl : vs.length = es.size := by have := hvs.length_eq; simpa using this
  have key : ∀ (h : Heap) (c₁ tk : Nat), St 0 h → (∀ b o, b ≠ S → s.heap.get? b = some o → h.get? b = some o) →
      h.get? S = some { cls := .type "list", data := .seq #[] c₁ } → codeAny (model prog w) A (.builtin "list.extend.loop" ⟨[.ref S, .ref I, res], []⟩) R { s with heap := h, toks := tk, drawn := d } := by
    intro h c₁ tk hst hk hS₁
    refine codeAny_extend_loopS W.toS hn S hSf res es.size 0 _ #[] c₁ rfl (Nat.zero_le _) hst hS₁ (ItemsOf.nil _) fun s' acc' c' hm hS' hacc => ?_
    rw [Moved.eq_with hm]
    refine hR s'.heap s'.toks d acc' c' (fun b o hb e => hm.heap b o (fun hmem => ?_) (hk b o hb e)) hS' ?_
    · rcases List.mem_cons.mp hmem with e' | hmem
      · exact hb e'
      · exact absurd (Heap.lt_size e) (Nat.not_lt.mpr (hwr b hmem))
    · have : acc'.toList = vs := by
        refine List.ext_getElem? fun j => ?_
        have hsz : acc'.toList.length = vs.length := by rw [hvl]; simpa using hacc.1
        rcases Nat.lt_or_ge j acc'.toList.length with h | h
        · have e := List.getElem?_eq_getElem h
          rw [e]
          rw [Array.getElem?_toList] at e
          exact (hacc.2 j _ e).symm
        · rw [List.getElem?_eq_none h, List.getElem?_eq_none (by lia)]
      rw [this]; exact hvs
  have hS₁ := kept _ _ hS
  have hs₁ : SAt hp a es ep t := hs.at' fun o e => kept _ _ e
  refine wpAny_bind (wpAny_holding (set_hint (hTy hs₁) ?_))
  refine wpAny_ite_split (fun _ => ?_) (fun _ => wpAny_pure ⟨plainId_quiet PySem.F.plain_extend_loop _, key _ c₀ _ st (fun b o _ e => kept _ _ e) hS₁⟩)
  refine wpAny_bind (wpAny_rule ?_)
  refine wpAny_bind ?_
  show wpAny _ _ (updateSeq S (·.push .none) >>= fun _ => updateSeq S (·.pop)) _ _ _
  refine wpAny_bind (wpAny_updateSeq hS₁ rfl ?_)
  have hS₂ := Heap.get?_update_self (Obj.mapSeq (·.push Value.none)) hS₁ rfl
  refine wpAny_updateSeq (hz := by seq_fits) hS₂ rfl ?_
  have hS₃ := Heap.get?_update_self (Obj.mapSeq (·.pop)) hS₂ rfl
  refine wpAny_pure ⟨plainId_quiet PySem.F.plain_extend_loop _, key _ _ _ (W.frame 0 _ _ st fun b hb o e => ?_) (fun b o hb e => ?_) hS₃⟩
  · have hbS : b ≠ S := fun h => hSf (h ▸ hb)
    exact (Heap.get?_update_other _ _ (Ne.symm hbS)).trans ((Heap.get?_update_other _ _ (Ne.symm hbS)).trans e)
  · exact (Heap.get?_update_other _ _ (Ne.symm hb)).trans ((Heap.get?_update_other _ _ (Ne.symm hb)).trans (kept _ _ e))
theorem collectJ {R : List Value → Shared → Prop} (calm : A.handled = none) (hs : SAt s.heap a es ep t) (hf : t.fits es.size = true) (hT : TOk (!(byT w)) t) (small : es.size ≤ sizeLine)
    (k : ∀ (g : Heap) (tk : Nat) (d : Drawn) (xs : Array Value), (∀ b o, s.heap.get? b = some o → g.get? b = some o) → s.heap.objs.size < g.objs.size → xs.toList.Perm (es.toList.map (·.2)) → R xs.toList { s with heap := g, toks := tk, drawn := d }) :
    wpAny (model prog w) A (collect (.ref a)) R E s := by
  have lt : a < s.heap.objs.size := let ⟨_, ho, _⟩ := hs; Heap.lt_size ho
  unfold collect
  refine wpAny_bind (wpAny_runValue (codeAny_builtin entry_proto_collect' ?_))
  rw [Around.under_plainId PySem.F.plain_proto_collect _]
  show wpAny _ A.in1 (do again (.builtin "list.__iadd__" ⟨[← newList [], .ref a], []⟩)) _ _ s
  refine wpAny_bind (wpAny_newObj_type (wpAny_pure ⟨plainId_quiet PySem.F.plain_list_iadd _, codeAny_builtin entry_list_iadd' ?_⟩))
  rw [Around.under_plainId PySem.F.plain_list_iadd _]
  have first : (s.heap.push { cls := .type "list", data := .seq ([] : List Value).toArray }).get? s.heap.objs.size = some { cls := .type "list", data := .seq #[] } := Heap.get?_push_size _ rfl
  have run := extendJ (prog := prog) (A := A) (s := { s with heap := s.heap.push { cls := .type "list", data := .seq ([] : List Value).toArray } })
    (R := fun (q : Result) (z : Shared) => ∃ (g : Heap) (tk : Nat) (d : Drawn) (xs : Array Value) (c : Nat), q = .ok (.ret (.ref s.heap.objs.size)) ∧ z = { s with heap := g, toks := tk, drawn := d } ∧
      (∀ b o, s.heap.get? b = some o → g.get? b = some o) ∧ g.get? s.heap.objs.size = some { cls := .type "list", dict := none, data := .seq xs c, slots := #[] } ∧ xs.toList.Perm (es.toList.map (·.2)))
    calm (hs.at' fun o e => Heap.get?_push_of_some _ e) hf hT s.heap.objs.size (Nat.ne_of_gt lt) (.ref s.heap.objs.size) 0 first
    (fun g tk d xs c kept at_ its => ⟨g, tk, d, xs, c, rfl, rfl, fun b o e => kept b o (Nat.ne_of_lt (Heap.lt_size e)) (Heap.get?_push_of_some _ e), at_, its⟩) small
  have last : ∀ {g : Heap} {tk : Nat} {d : Drawn} {xs : Array Value} {c : Nat}, (∀ b o, s.heap.get? b = some o → g.get? b = some o) → g.get? s.heap.objs.size = some { cls := .type "list", dict := none, data := .seq xs c, slots := #[] } → xs.toList.Perm (es.toList.map (·.2)) →
      wpAny (model prog w) A (load s.heap.objs.size >>= fun o => match o.data with | .seq xs _ => pure xs.toList | _ => unsupported "internal:collect") R E { s with heap := g, toks := tk, drawn := d } := fun kept at_ its =>
    wpAny_bind (wpAny_load at_ (wpAny_pure (k _ _ _ _ kept (Heap.lt_size at_) its)))
  refine wpAny_mono run (fun fin z x => ?_) fun e z x => ?_
  · cases fin with
    | done f =>
      obtain ⟨g, tk, d, xs, c, e, rfl, kept, at_, its⟩ := x
      cases e
      exact last kept at_ its
    | again c₁ =>
      refine ⟨x.1, codeAny_mono x.2 fun q z y => ?_⟩
      obtain ⟨g, tk, d, xs, c, rfl, rfl, kept, at_, its⟩ := y
      exact last kept at_ its
  · obtain ⟨_, _, _, _, _, e', _⟩ := x
    cases e'
theorem sortedJ {S : Int → Bool} {n : Nat} {Q : Value → Shared → Prop} (hS : SetJ prog w s.heap a S n) (calm : A.in1.handled = none) (few : n < 64)
    (k : ∀ (g : Heap) (tk : Nat) (d : Drawn) (b e : Nat) (out : Array Value) (ms : List Int), (∀ b o, s.heap.get? b = some o → g.get? b = some o) → s.heap.objs.size ≤ b → g.get? b = some (seqObj "list" out e) → IntsAre out.toList ms → ms.length = n → (∀ i, S i = true ↔ i ∈ ms) → ms.Pairwise (· ≤ ·) → Q (.ref b) { s with heap := g, toks := tk, drawn := d }) :
    wpAny (model prog w) A (call (.builtin "sorted") [.ref a]) Q E s := by
  obtain ⟨o, es, ep, t, ho, hex, hd, hel, hmem, hb, hf, hn, hT⟩ := hS
  refine Calls.call_function_entry kind_sorted plain_sorted entry_sorted (args_sorted1 _) ?_
  unfold Builtin.«sorted»
  refine wpAny_bind (m := checkCount "sorted" 1 1 _) (wpAny_pure (wpAny_bind (collectJ calm ⟨o, ho, hex.1, hd⟩ hf hT (fits_of_scanBound hb) fun g tk d xs kept grown its => ?_)))
  have ln : xs.toList.length = n := by have := its.length_eq; simpa [hn] using this
  have hint : ∀ v ∈ xs.toList, ∃ i tk, v = Value.int i tk := fun v hv => by
    have := its.mem_iff.mp hv
    obtain ⟨e, he, rfl⟩ := List.mem_map.mp this
    obtain ⟨⟨i, hi, _⟩, _⟩ := hel e he
    cases he2 : e.2 <;> rw [he2] at hi <;> first | exact ⟨_, _, rfl⟩ | (cases hi)
  obtain ⟨ns, hi⟩ : ∃ ns, IntsAre xs.toList ns := by
    generalize xs.toList = l at hint
    induction l with
    | nil => exact ⟨[], .nil⟩
    | cons v l ih =>
      obtain ⟨i, tk, rfl⟩ := hint v (List.mem_cons_self ..)
      obtain ⟨ns, h⟩ := ih fun u hu => hint u (List.mem_cons_of_mem _ hu)
      exact ⟨i :: ns, .cons i tk h⟩
  have hns : ∀ i, i ∈ ns ↔ ∃ v ∈ xs.toList, (intKind prog w).is i v = true := by
    have : ∀ {l : List Value} {ns : List Int}, IntsAre l ns → ∀ i, i ∈ ns ↔ ∃ v ∈ l, (intKind prog w).is i v = true := by
      intro l ns h
      induction h with
      | nil => intro i; simp
      | cons m tk h ih =>
        intro i
        rw [List.mem_cons, ih i]
        constructor
        · rintro (rfl | ⟨v, hv, q⟩)
          · exact ⟨_, List.mem_cons_self .., intKind_is _ _ _ _⟩
          · exact ⟨v, List.mem_cons_of_mem _ hv, q⟩
        · rintro ⟨v, hv, q⟩
          rcases List.mem_cons.mp hv with rfl | hv
          · exact .inl ((intKind prog w).inj _ i m q (intKind_is _ _ _ _))
          · exact .inr ⟨v, hv, q⟩
    exact this hi
  refine wpAny_bind (wpAny_newList ?_ (by rw [ln, ← hn]; exact fits_of_scanBound hb))
  have at1 : (g.push (seqObj "list" xs.toList.toArray 0)).get? g.objs.size = some (seqObj "list" xs.toList.toArray 0) := Heap.get?_push_size _ rfl
  show wpAny _ _ _ _ _ { s with heap := g.push (seqObj "list" xs.toList.toArray 0), toks := tk, drawn := d }
  refine wpAny_bind (wpAny_holding (wpAny_call_entry slot_list_sort ⟨_, at1, rfl⟩ entry_list_sort (list_sort_tree at1 hi (by lia) fun out ms a1 a2 a3 => ⟨_, rfl, ?_⟩) (args_list_sort _)))
  obtain ⟨e, he⟩ := sortedHeap_at (out := out) at1
  refine wpAny_pure ⟨_, rfl, k _ tk d _ e out ms (fun b o q => ?_) (Nat.le_of_lt grown) he a1 ?_ (fun i => ?_) a3⟩
  · have lb : b < g.objs.size := Heap.lt_size (kept b o q)
    show (sortedHeap (g.push (seqObj "list" xs.toList.toArray 0)) g.objs.size xs.toList out).get? b = some o
    rw [sortedHeap_old (Nat.ne_of_lt lb) (by rw [size_push']; exact Nat.lt_succ_of_lt lb)]
    exact Heap.get?_push_of_some _ (kept b o q)
  · rw [a2.length_eq, ← IntsAre.length hi, ln]
  · rw [a2.mem_iff, hns i, hmem i]
    constructor
    · rintro ⟨e, he, q⟩
      exact ⟨e.2, its.mem_iff.mpr (List.mem_map.mpr ⟨e, he, rfl⟩), q⟩
    · rintro ⟨v, hv, q⟩
      obtain ⟨e, he, rfl⟩ := List.mem_map.mp (its.mem_iff.mp hv)
      exact ⟨e, he, q⟩
end
end HS
namespace L3
open PySem PySem.Spec PyProof.Rows L2
theorem sorted_ext : ∀ {xs ys : List Int}, xs.Pairwise (· < ·) → ys.Pairwise (· < ·) → (∀ x, x ∈ xs ↔ x ∈ ys) → xs = ys
  | [], [], _, _, _ => rfl
  | [], y :: _, _, _, h => absurd ((h y).mpr (List.mem_cons_self ..)) (by simp)
  | x :: _, [], _, _, h => absurd ((h x).mp (List.mem_cons_self ..)) (by simp)
  | x :: xs, y :: ys, hx, hy, h => by
    rw [List.pairwise_cons] at hx hy
    have e : x = y := by
      rcases List.mem_cons.mp ((h x).mp (List.mem_cons_self ..)) with e | e
      · exact e
      · rcases List.mem_cons.mp ((h y).mpr (List.mem_cons_self ..)) with e' | e'
        · exact e'.symm
        · have := hx.1 y e'; have := hy.1 x e; lia
    subst e
    rw [sorted_ext hx.2 hy.2 fun z => ?_]
    constructor
    · intro hz
      rcases List.mem_cons.mp ((h z).mp (List.mem_cons_of_mem _ hz)) with e | e
      · subst e; have := hx.1 z hz; lia
      · exact e
    · intro hz
      rcases List.mem_cons.mp ((h z).mpr (List.mem_cons_of_mem _ hz)) with e | e
      · subst e; have := hy.1 z hz; lia
      · exact e
theorem met_mem (ns : List Int) (k : Int) : k ∈ firstMet (fun i => ns.getD i 0) ns.length ↔ k ∈ ns := by
  have := firstMet_any (fun i => ns.getD i 0) ns.length k
  rw [range_getD] at this
  have key : ∀ l : List Int, l.any (· == k) = true ↔ k ∈ l := fun l => by
    rw [List.any_eq_true]
    constructor
    · rintro ⟨x, hx, e⟩
      rw [← eq_of_beq e]; exact hx
    · intro h; exact ⟨k, h, by simp⟩
  rw [← key, ← key, this]
section
variable {X : Cx}
theorem inv_drw {pins : List (Addr × Obj)} {σ : List (Option V)} {H : Hp} {s : Shared} (I : Inv X pins σ H s) (d : Drawn) : Inv X pins σ H { s with drawn := d } := ⟨I.ok, I.os, I.bare, I.base, I.loc, I.cell, I.free, I.freeC, I.pin, I.hok, I.len⟩
noncomputable def tSortSet (K : PySem.W.Frag) (ta : TA) : TE := fun σ H Q => ta σ H fun vs H1 => ∃ (a : Addr) (ns : List Int), vs = [.ref a] ∧ SqL K H1 a (ns.map V.int) ∧ ns.length < 64 ∧
  ∀ (q : Addr) (H' : Hp) (ms : List Int), H1 q = none → Same H1 H' → H' q = some (.lst (ms.map V.int)) → ms.length ≤ ns.length → (ms = ns ↔ ns.Pairwise (· < ·)) → Q (.ref q) H'
theorem pe_sortSet {e : Expr} {ta : TA} {p1 p2 pos1 pos : Pos} (hc : X.calm = true) (hg : Gl X "sorted") (hm : X.mg "sorted" = none) (hg2 : Gl X "set") (hm2 : X.mg "set" = none) (ha : PA X [e] ta) (hs : starEach [e] X.env = [(false, eval e X.env)]) :
    PE X (.Call (.Name "sorted" p1) [.Call (.Name "set" p2) [e] [] pos1] [] pos) (tSortSet X.K ta) := by
  intro pins s σ H Q I h
  refine Call_ (ld_blt I hg hm bt_sorted (Calls.callWith_builtin rfl (Calls.evalArgs_plain (Calls.spliced_cons ?_))))
  refine Call_ (ld_blt I hg2 hm2 bt_set (PyProof.Rows.callWith_type1 (thn (ha pos1 pins s σ H _ I h) fun us s1 ⟨vs, H1, I1, r1, q1⟩ => ?_) hs rfl))
  obtain ⟨a, ns, e, hL, hlen, q⟩ := q1
  subst e
  obtain ⟨u, rfl, ru⟩ := vals1 r1
  cases ru
  obtain ⟨its, r, hl, hz⟩ := I1.list hL
  have hi : IntsAre its.toArray.toList ns := intsAre_of r
  have hl2 : its.length = ns.length := by have := r.length; rw [List.length_map] at this; exact this.symm
  have hl3 : its.toArray.size = ns.length := by rw [List.size_toArray, hl2]
  refine HS.make_J (I1.ok.hd hc) hl.isList hi (by rw [hl3]; unfold scanBound; lia) fun h' tk hS hk => ?_
  rw [hl3] at hS
  refine Calls.spliced_nil ?_
  have I2 := I1.kept (t' := tk) (fun b o e => hk b o (Heap.lt_size e) e)
  have hm1 := met_all ns
  refine HS.sortedJ hS (I1.ok.hd hc) (by lia) fun g tk' d b en out ms kept ge ga i1 i2 i3 i4 => ?_
  have hf : H1 b = none := I2.hok.fresh ge
  have hmm : ∀ i, i ∈ ms ↔ i ∈ ns := fun i => by
    rw [← i3 i, ← met_mem ns i]
    show (firstMet _ _).any _ = true ↔ _
    rw [List.any_eq_true]
    constructor
    · rintro ⟨x, hx, e⟩
      rw [← eq_of_beq e]; exact hx
    · intro h; exact ⟨i, h, by simp⟩
  have hnd : ms.Nodup := sub_full (met_nodup (fun i => ns.getD i 0) ns.length) (fun x hx => (hmm x).mpr ((met_mem ns x).mp hx)) i2.symm
  have hst : ms.Pairwise (· < ·) := (i4.and hnd).imp fun ⟨h1, h2⟩ => by
    have : ∀ {a b : Int}, a ≤ b → a ≠ b → a < b := fun h1 h2 => by lia
    exact this h1 h2
  refine ⟨.ref b, _, inv_drw (I2.laid (t' := tk') (o := .lst (ms.map V.int)) kept ge ⟨by rw [List.length_map]; exact Nat.le_of_lt (Nat.lt_of_lt_of_le (by lia : ms.length < 64) (by decide)), out.toList, en, vals_of_ints i1, ga⟩) d, rfl, q _ _ ms hf (same_new hf) upd_same (by lia) ⟨fun z => z ▸ hst, fun z => sorted_ext hst z hmm⟩⟩
theorem qSortSet {e : Expr} {ta : TA} {p1 p2 pos1 pos : Pos} (K : PySem.W.Frag) (hg : Gl X "sorted") (hm : X.mg "sorted" = none) (hg2 : Gl X "set") (hm2 : X.mg "set" = none) (ha : QA X [e] ta) (h : notStar e = true := by rfl) (hc : X.calm = true := by rfl) (hK : X.K = K := by rfl) :
    QE X (.Call (.Name "sorted" p1) [.Call (.Name "set" p2) [e] [] pos1] [] pos) (tSortSet K ta) := by
  subst hK
  exact .mk (pe_sortSet hc hg hm hg2 hm2 ha.un (by rw [star_cons h, star_nil]))
end
end L3
namespace HS
open PySem PySem.W PySem.Calls PyProof.Rows
section
variable {prog : Program} {w : World} {A : Around} {E : Value → Shared → Prop}
theorem draw_list {it l : Addr} {items : Array Value} (hne : l ≠ it) : ∀ (n i : Nat) (s : Shared) (Q : List Value → Shared → Prop), s.heap.IsListIter it l i → s.heap.IsList l items → i + n ≤ items.size →
    (∀ h', h'.IsListIter it l (i + n) → Heap.SameBut it s.heap h' → Q ((items.toList.drop i).take n) { s with heap := h' }) → wpAny (model prog w) A (draw (.ref it) n) Q E s
  | 0, i, s, Q, hit, _, _, hQ => wpAny_pure (by simpa using hQ s.heap hit (Heap.SameBut.refl ..))
  | n + 1, i, s, Q, hit, ht, hle, hQ => by
    have hlt : i < items.size := by lia
    show wpAny _ _ (pyNext (.ref it) >>= _) Q E s
    refine wpAny_bind (wpAny_pyNext_list_item hit ht (x := items[i]) (by simp [hlt]) fun h₁ hit₁ hs₁ => ?_)
    refine wpAny_bind (wpAny_holding (draw_list hne n (i + 1) _ _ hit₁ (ht.extBut hs₁.extBut hne) (by lia) fun h₂ hit₂ hs₂ => wpAny_pure ?_))
    have hd : items.toList.drop i = items[i] :: items.toList.drop (i + 1) := by simp [List.drop_eq_getElem_cons, hlt]
    have := hQ h₂ (by rw [show i + (n + 1) = i + 1 + n by lia]; exact hit₂) (hs₁.trans hs₂)
    rw [hd, List.take_succ_cons] at this
    exact this
variable {s : Shared}
theorem asg_list {env : Env} {elts : List Expr} {x1} {pos : Pos} {l : Addr} {items : Array Value} {Q : Unit → Shared → Prop} (hh : A.handled = none) (ht : s.heap.IsList l items)
    (hn : (assignEach elts env).length = items.size) (hstar : (assignEach elts env).findIdx? (·.1) = none)
    (h : ∀ h', Heap.ExtBut s.heap.objs.size s.heap h' → wpAny (model prog w) A (assignInOrder ((assignEach elts env).map (·.2)) items.toList) Q E { s with heap := h' }) :
    wpAny (model prog w) A (assign (.Tuple elts x1 pos) env (.ref l)) Q E s := by
  rw [PyProof.Rows.assign_Tuple]
  refine wpAny_bind (wpAny_standAt ?_)
  unfold unpack
  rw [hn, hstar]
  have hlt : l ≠ s.heap.objs.size := by obtain ⟨o, ho, _⟩ := ht; exact Nat.ne_of_lt (Heap.lt_size ho)
  have hT : s.TypeIs (.ref l) "list" := let ⟨o, ho, hc, _⟩ := ht; ⟨o, ho, hc⟩
  refine wpAny_bind (wpAny_holding ?_)
  unfold unpackItems
  refine wpAny_bind ?_
  unfold notIterableAtAll
  refine wpAny_bind (wpAny_specialOf hT PySem.F.slot_list_iter.lookup ?_)
  refine wpAny_pure ?_
  simp only [Bool.false_eq_true, if_false]
  refine wpAny_bind (wpAny_holding (wpAny_pyIter_list ht ?_))
  refine wpAny_bind (wpAny_holding (draw_list hlt items.size 0 _ _ ⟨_, Heap.get?_push_size _ rfl, rfl, rfl⟩ (ht.push _) (by lia) fun h₁ hit₁ hs₁ => ?_))
  have hall : List.take items.size (List.drop 0 items.toList) = items.toList := by
    rw [List.drop_zero]; exact List.take_of_length_le (by simp)
  rw [hall]
  rw [if_neg (by simp)]
  have ht₁ : h₁.IsList l items := (ht.push _).extBut hs₁.extBut hlt
  refine wpAny_bind (wpAny_holding (wpAny_pyNext_list_end hh hit₁ ht₁ (by simp) fun h₂ he₂ => ?_))
  simp only [Option.isSome_none, Bool.false_eq_true, if_false]
  exact wpAny_pure (h h₂ fun b o hb e => he₂ b o hb (hs₁.extBut b o hb (Heap.get?_push_of_some _ e)))
end
end HS
namespace L3
open PySem PySem.Spec PyProof.Rows L2
section
variable {X : Cx} {es : List Expr} {pos : Pos}
noncomputable def gTupL (K : PySem.W.Frag) (n : Nat) (t : TGs) : TG := fun v σ H Q => ∃ a xs, v = .ref a ∧ SqL K H a xs ∧ xs.length = n ∧ t xs σ H Q
theorem pg_tupL {k : Nat} {t : TGs} {n : Nat} (hc : X.calm = true) (h : PGs X es t)
    (hn : (assignEach es X.env).length = n := by rfl) (hst : (assignEach es X.env).findIdx? (·.1) = none := by rfl) : PG X (.Tuple es k pos) (gTupL X.K n t) := by
  intro pins s σ H v u Q I r hw
  obtain ⟨a, xs, e1, hq, hl, hw⟩ := hw
  subst e1
  cases r
  obtain ⟨its, rv, ht, hz⟩ := I.list hq
  refine HS.asg_list (I.ok.hd hc) ht.isList (by simp [hn, ← hl, rv.length]) hst fun h' hx => ?_
  have I1 : Inv X pins σ H { s with heap := h' } := I.kept (t' := s.toks) fun b o e => hx b o (Nat.ne_of_lt (Heap.lt_size e)) e
  exact h pins _ σ H xs _ Q I1 (by simpa using rv) hw
theorem gtupL {k : Nat} {t : TGs} {n : Nat} (K : PySem.W.Frag) (hc : X.calm = true) (h : QGs X es t) (hn : (assignEach es X.env).length = n := by rfl) (hst : (assignEach es X.env).findIdx? (·.1) = none := by rfl) (hK : X.K = K := by rfl) : QG X (.Tuple es k pos) (gTupL K n t) := by
  subst hK
  exact .mk (pg_tupL hc h.un hn hst)
end
end L3
namespace L3
open PySem PySem.Spec PyProof.Rows L2
section
variable {X : Cx}
noncomputable def TxL (H : Hp) (v : V) : Prop := (∃ x, v = .str x) ∨ ∃ c cs, v = .ref c ∧ H c = some (.lst cs)
noncomputable def rEqTx : R2 := fun x y H Q => ∃ (a b : Addr) (vs : List V) (ts : List Str), x = .ref a ∧ y = .ref b ∧ H a = some (.lst vs) ∧ H b = some (.lst (ts.map V.str)) ∧ vs.length = ts.length ∧ (∀ v ∈ vs, TxL H v) ∧ Q (.bl (decide (vs = ts.map V.str))) H
theorem all_eq {vs ws : List V} (h : vs.length = ws.length) : (List.range vs.length).all (fun j => decide (vs[j]? = ws[j]?)) = decide (vs = ws) := by
  rw [Bool.eq_iff_iff, List.all_eq_true, decide_eq_true_eq]
  constructor
  · intro hj
    refine List.ext_getElem? fun j => ?_
    rcases Nat.lt_or_ge j vs.length with h1 | h1
    · exact of_decide_eq_true (hj j (List.mem_range.mpr h1))
    · rw [List.getElem?_eq_none h1, List.getElem?_eq_none (by lia)]
  · rintro rfl j _
    simp
theorem op_eqTx (hu : X.A.units + 150 < cLine) : OpR X (compareOp .Eq) rEqTx := by
  intro pins s σ H x y v u Q I rx ry h
  obtain ⟨a, b, vs, ts, rfl, rfl, ea, eb, hl, ht, q⟩ := h
  cases rx
  cases ry
  obtain ⟨its, qi, hi⟩ := lstAt I.hok ea
  obtain ⟨its2, qj, hj⟩ := lstAt I.hok eb
  have l1 := qi.length
  have l2 := qj.length
  rw [List.length_map] at l2
  have sz : its.toArray.size = its2.toArray.size := by rw [List.size_toArray, List.size_toArray]; lia
  have r := SeqAt.RcAt.lists (A := X.A) hi hj sz (by lia) (e := fun j => decide (vs[j]? = (ts.map V.str)[j]?)) fun j h1 h2 => by
    rw [List.size_toArray] at h1 h2
    have g1 : vs[j]? = some (vs[j]'(by lia)) := List.getElem?_eq_getElem (by lia)
    have g2 : (ts.map V.str)[j]? = some (.str (ts[j]'(by lia))) := by rw [List.getElem?_map, List.getElem?_eq_getElem (by lia)]; rfl
    obtain ⟨u, hu', ru⟩ := qi.get g1
    obtain ⟨z, hz, rz⟩ := qj.get g2
    rw [get_toArray _ hu', get_toArray _ hz, g1, g2]
    obtain ⟨t', rfl⟩ := rz
    have hm := ht _ (List.getElem_mem (l := vs) (by lia : j < vs.length))
    generalize vs[j]'(by lia) = v at ru hm
    rcases hm with ⟨x, rfl⟩ | ⟨c, cs, rfl, ec⟩
    · obtain ⟨t, rfl⟩ := ru
      have := SeqAt.EqAt.str_str (A := X.A.in1) (s := s) x t ts[j] t'
      have e : (x == ts[j]) = decide (some (V.str x) = some (V.str ts[j])) := by
        rw [Bool.eq_iff_iff, beq_iff_eq, decide_eq_true_eq]; simp
      rw [e] at this; exact this
    · cases ru
      obtain ⟨its3, _, h3⟩ := lstAt I.hok ec
      rw [decide_eq_false (by simp)]
      exact SeqAt.EqAt.list_str _ _ h3 (by rw [in1_units]; lia)
  have e1 : its.toArray.size = vs.length := by rw [List.size_toArray]; lia
  rw [e1, all_eq (by rw [List.length_map]; exact hl)] at r
  exact r X.prog X.w X.xe _ ⟨.bl _, H, I, rfl, q⟩
theorem rEqTxx {k : Nat} {A : Around} (hr : Room k A) (hA : X.A = A := by rfl) : ROp X (compareOp .Eq) rEqTx := .mk (op_eqTx (by rw [hA]; exact hu_n hr))
end
end L3
namespace K48
open PySem L2 L3 PySem.NumText
inductive Hi where
  | s (x : Str)
  | t (a : Tr)
noncomputable def Hi.cat : Hi → List Nat
  | .s x => ls x
  | .t a => showL a
noncomputable def keyB (x : Str) : Bool := figB (unS x) && decide (x = ⟨#[48]⟩ ∨ (ls (unS x))[0]? ≠ some 48)
theorem keyB_iff (x : Str) : keyB x = true ↔ KeyW x := by
  unfold keyB
  rw [Bool.and_eq_true, decide_eq_true_eq]
  constructor
  · rintro ⟨h1, h2⟩
    obtain ⟨v, _, _, _, h⟩ := key_val h1
    exact h.mpr h2
  · intro h
    obtain ⟨v, _, _, _, h'⟩ := key_val (key_fig h)
    exact ⟨key_fig h, h'.mp h⟩
noncomputable def kv (x : Str) : Int := (PySem.intText? x).getD 0
theorem kv_num {n : Int} (h : Bd n) : kv (num n) = n := by unfold kv; rw [num_reads h]; rfl
theorem kv_key {x : Str} (h : keyB x = true) : Bd (kv x) ∧ num (kv x) = x ∧ PySem.intText? x = some (kv x) := by
  obtain ⟨n, hb, rfl⟩ := (keyB_iff x).mp h
  rw [kv_num hb]
  exact ⟨hb, rfl, num_reads hb⟩
noncomputable abbrev tSp : Str := ⟨#[32]⟩
noncomputable abbrev tOp : Str := ⟨#[40]⟩
noncomputable abbrev tCl : Str := ⟨#[41]⟩
noncomputable abbrev tDot : Str := ⟨#[46]⟩
noncomputable def shape (q : Tr × Str × Tr × List Hi) : List Hi := .t q.1 :: .s tSp :: .s q.2.1 :: .s tSp :: .t q.2.2.1 :: .s tOp :: q.2.2.2
open Classical in
noncomputable def red (hp : List Hi) : List Hi := if h : ∃ q, hp = shape q ∧ keyB q.2.1 = true then .t (.node h.choose.2.2.1 (kv h.choose.2.1) h.choose.1) :: h.choose.2.2.2 else .s tCl :: hp
theorem red_stay {hp : List Hi} (h : ∀ r w l rest, hp = .t r :: .s tSp :: .s w :: .s tSp :: .t l :: .s tOp :: rest → keyB w = true → False) : red hp = .s tCl :: hp := by
  unfold red
  exact dif_neg fun ⟨q, e, hk⟩ => h q.1 q.2.1 q.2.2.1 q.2.2.2 e hk
theorem red_go {r l : Tr} {w : Str} {rest : List Hi} (h : keyB w = true) : red (.t r :: .s tSp :: .s w :: .s tSp :: .t l :: .s tOp :: rest) = .t (.node l (kv w) r) :: rest := by
  have hx : ∃ q, Hi.t r :: .s tSp :: .s w :: .s tSp :: .t l :: .s tOp :: rest = shape q ∧ keyB q.2.1 = true := ⟨(r, w, l, rest), rfl, h⟩
  unfold red
  rw [dif_pos hx]
  have e := hx.choose_spec.1
  generalize hx.choose = q at e
  unfold shape at e
  injection e with e1 e
  injection e with _ e
  injection e with e2 e
  injection e with _ e
  injection e with e3 e
  injection e with _ e
  injection e1 with e1
  injection e2 with e2
  injection e3 with e3
  rw [← e1, ← e2, ← e3, ← e]
theorem red_or (hp : List Hi) : red hp = .s tCl :: hp ∨ ∃ r w l rest, hp = .t r :: .s tSp :: .s w :: .s tSp :: .t l :: .s tOp :: rest ∧ keyB w = true ∧ red hp = .t (.node l (kv w) r) :: rest := by
  by_cases h : ∃ q, hp = shape q ∧ keyB q.2.1 = true
  · obtain ⟨q, e, hk⟩ := h
    exact .inr ⟨q.1, q.2.1, q.2.2.1, q.2.2.2, e, hk, by rw [e]; exact red_go hk⟩
  · exact .inl (by unfold red; rw [dif_neg h])
noncomputable def hstep (hp : List Hi) (it : Str) : List Hi := if it = tDot then .t .nil :: hp else if it = tCl then red hp else .s it :: hp
noncomputable def catR (hp : List Hi) : List Nat := hp.reverse.flatMap Hi.cat
theorem catR_cons (h : Hi) (hp : List Hi) : catR (h :: hp) = catR hp ++ h.cat := by
  unfold catR
  rw [List.reverse_cons, List.flatMap_append]; simp
theorem red_cat (hp : List Hi) : catR (red hp) = catR hp ++ [41] := by
  rcases red_or hp with e | ⟨r, w, l, rest, e, hw, e'⟩
  · rw [e, catR_cons]; rfl
  · rw [e', e]
    simp only [catR_cons, Hi.cat, showL, (kv_key hw).2.1]
    simp [show ls tOp = [40] from rfl, show ls tSp = [32] from rfl]
theorem hstep_cat (hp : List Hi) (it : Str) : catR (hstep hp it) = catR hp ++ ls it := by
  unfold hstep
  split
  · rename_i h; subst h; rw [catR_cons]; rfl
  · split
    · rename_i h; subst h; rw [red_cat]
    · rw [catR_cons]; rfl
noncomputable def OkH (hp : List Hi) : Prop := ∀ t, Hi.t t ∈ hp → BdT t
theorem okH_red {hp : List Hi} (h : OkH hp) : OkH (red hp) := by
  rcases red_or hp with e | ⟨r, w, l, rest, e, hw, e'⟩
  · rw [e]
    intro t ht
    rcases List.mem_cons.mp ht with e | e
    · cases e
    · exact h t e
  · rw [e']
    intro t ht
    rcases List.mem_cons.mp ht with q | q
    · cases q
      have hl : BdT l := h l (by rw [e]; simp)
      have hr : BdT r := h r (by rw [e]; simp)
      intro k hk
      simp only [Tr.keys, List.mem_append, List.mem_cons, List.not_mem_nil, or_false] at hk
      rcases hk with (hk | rfl) | hk
      · exact hl k hk
      · exact (kv_key hw).1
      · exact hr k hk
    · exact h t (by rw [e]; simp [q])
theorem okH_step {hp : List Hi} (h : OkH hp) (it : Str) : OkH (hstep hp it) := by
  unfold hstep
  split
  · intro t ht
    rcases List.mem_cons.mp ht with e | e
    · cases e; intro k hk; simp [Tr.keys] at hk
    · exact h t e
  · split
    · exact okH_red h
    · intro t ht
      rcases List.mem_cons.mp ht with e | e
      · cases e
      · exact h t e
noncomputable def run (A : List Str) : List Hi := A.foldl hstep []
theorem run_cat (A : List Str) : catR (run A) = cat A ∧ OkH (run A) := by
  have : ∀ (A : List Str) (hp : List Hi), OkH hp → catR (A.foldl hstep hp) = catR hp ++ cat A ∧ OkH (A.foldl hstep hp) := fun A => by
    induction A with
    | nil => intro hp h; exact ⟨by simp [cat], h⟩
    | cons it A ih =>
      intro hp h
      have := ih (hstep hp it) (okH_step h it)
      rw [hstep_cat] at this
      refine ⟨?_, this.2⟩
      rw [List.foldl_cons, this.1]
      simp [cat]
  have := this A [] (fun t ht => nomatch ht)
  refine ⟨?_, this.2⟩
  show catR (A.foldl hstep []) = _
  rw [this.1]; rfl
noncomputable def itT : Tr → List Str
  | .nil => [tDot]
  | .node l k r => tOp :: (itT l ++ tSp :: num k :: tSp :: (itT r ++ [tCl]))
theorem it_word : ∀ (l : List Nat) (d : List Str) (w : List Nat), (∀ c ∈ l, sep c = false) → l.foldl it1 (d, w) = (d, w ++ l)
  | [], d, w, _ => by simp
  | c :: l, d, w, h => by
    have hc := h c (List.mem_cons_self ..)
    rw [List.foldl_cons]
    have : it1 (d, w) c = (d, w ++ [c]) := by unfold it1; rw [if_neg (by rw [hc]; decide)]
    rw [this, it_word l d _ fun c' hc' => h c' (List.mem_cons_of_mem _ hc')]
    simp
theorem it_sep (d : List Str) (w : List Nat) {c : Nat} (h : sep c = true) : it1 (d, w) c = (d ++ wrd w ++ [⟨#[c]⟩], []) := by unfold it1; rw [if_pos h]
theorem it_show : ∀ (t : Tr), BdT t → ∀ (d : List Str), (showL t).foldl it1 (d, []) = (d ++ itT t, [])
  | .nil, _, d => by
    rw [showL, List.foldl_cons, it_sep _ _ (by decide)]
    simp [wrd, itT]
  | .node l k r, h, d => by
    obtain ⟨h1, h2, h3⟩ := h.kids
    have hs : ∀ c ∈ ls (num k), sep c = false := fun c hc => by
      have := num_signs k c hc
      unfold sep
      rw [decide_eq_false_iff_not]; lia
    have hl := (num_len h2).1
    rw [ls_len] at hl
    have hne : ls (num k) ≠ [] := List.length_pos_iff.mp hl
    rw [showL, List.foldl_cons, it_sep _ _ (by decide), List.foldl_append, it_show l h1, List.foldl_cons, it_sep _ _ (by decide), List.foldl_append, it_word _ _ _ hs, List.foldl_cons, it_sep _ _ (by decide), List.foldl_append, it_show r h3, List.foldl_cons, it_sep _ _ (by decide)]
    have e : wrd ([] ++ ls (num k)) = [num k] := by unfold wrd; rw [List.nil_append, if_neg hne]
    rw [e]
    simp [wrd, itT]
theorem items_show {t : Tr} (h : BdT t) : items (showL t) = itT t := by
  unfold items its
  rw [it_show t h]
  simp [wrd]
theorem run_show : ∀ (t : Tr), BdT t → ∀ hp : List Hi, (itT t).foldl hstep hp = .t t :: hp
  | .nil, _, hp => rfl
  | .node l k r, h, hp => by
    obtain ⟨h1, h2, h3⟩ := h.kids
    have hk : keyB (num k) = true := (keyB_iff _).mpr (num_key h2)
    have hnd : num k ≠ tDot := fun z => by have := num_signs k 46 (by rw [z]; decide); lia
    have hnc : num k ≠ tCl := fun z => by have := num_signs k 41 (by rw [z]; decide); lia
    rw [itT, List.foldl_cons, List.foldl_append, run_show l h1, List.foldl_cons, List.foldl_cons, List.foldl_cons, List.foldl_append, run_show r h3]
    have e1 : ∀ hp, hstep hp tOp = .s tOp :: hp := fun hp => by unfold hstep; rw [if_neg (by decide), if_neg (by decide)]
    have e2 : ∀ hp, hstep hp tSp = .s tSp :: hp := fun hp => by unfold hstep; rw [if_neg (by decide), if_neg (by decide)]
    have e3 : ∀ hp, hstep hp (num k) = .s (num k) :: hp := fun hp => by unfold hstep; rw [if_neg hnd, if_neg hnc]
    rw [e1, e2, e3, e2]
    rw [List.foldl_cons, List.foldl_nil]
    unfold hstep
    rw [if_neg (by decide), if_pos rfl, red_go hk, kv_num h2]
noncomputable def keysI (A : List Str) : List Int := (A.filter keyB).map kv
theorem keys_snoc (A : List Str) (it : Str) : keysI (A ++ [it]) = keysI A ++ (if keyB it = true then [kv it] else []) := by
  unfold keysI
  rw [List.filter_append, List.map_append]
  congr 1
  split
  · rename_i h; simp [h]
  · rename_i h; simp [h]
theorem keysI_app (A B : List Str) : keysI (A ++ B) = keysI A ++ keysI B := by unfold keysI; rw [List.filter_append, List.map_append]
theorem keysI_cons (it : Str) (B : List Str) : keysI (it :: B) = (if keyB it = true then [kv it] else []) ++ keysI B := by
  unfold keysI
  rw [List.filter_cons]
  split <;> simp
theorem key_sep : keyB tOp = false ∧ keyB tSp = false ∧ keyB tCl = false ∧ keyB tDot = false := by decide
theorem keys_it : ∀ t : Tr, BdT t → keysI (itT t) = t.keys
  | .nil, _ => by rw [itT, keysI_cons, key_sep.2.2.2]; rfl
  | .node l k r, h => by
    obtain ⟨h1, h2, h3⟩ := h.kids
    have hk : keyB (num k) = true := (keyB_iff _).mpr (num_key h2)
    rw [itT, keysI_cons, keysI_app, keys_it l h1, keysI_cons, keysI_cons, keysI_cons, keysI_app, keys_it r h3, keysI_cons, key_sep.1, key_sep.2.1, key_sep.2.2.1, hk, kv_num h2]
    simp [keysI, Tr.keys]
theorem ord_up : ∀ (t : Tr) (lo hi : Option Int), t.keys.Pairwise (· < ·) → (∀ y ∈ t.keys, ∀ a, lo = some a → a < y) → (∀ y ∈ t.keys, ∀ b, hi = some b → y < b) → t.ord lo hi
  | .nil, _, _, _, _, _ => trivial
  | .node l x r, lo, hi, h, hlo, hhi => by
    rw [Tr.keys, List.append_assoc, List.pairwise_append] at h
    obtain ⟨h1, h2, h3⟩ := h
    rw [List.singleton_append, List.pairwise_cons] at h2
    refine ⟨fun a ha => hlo x (by simp [Tr.keys]) a ha, fun b hb => hhi x (by simp [Tr.keys]) b hb, ord_up l _ _ h1 (fun y hy => hlo y (by simp [Tr.keys, hy])) (fun y hy b hb => ?_), ord_up r _ _ h2.2 (fun y hy a ha => ?_) fun y hy => hhi y (by simp [Tr.keys, hy])⟩
    · cases hb; exact h3 y hy x (by simp)
    · cases ha; exact h2.1 y hy
theorem tof_ok {x : Str} {t : Tr} (h : OfT x t) : run (items (ls x)) = [.t t] ∧ (keysI (items (ls x))).length ≤ 60 ∧ (keysI (items (ls x))).Pairwise (· < ·) := by
  obtain ⟨hb, e, ho, hz⟩ := h
  rw [e, items_show hb, keys_it t hb, Tr.keys_length]
  exact ⟨run_show t hb [], hz, ord_rise t _ _ ho⟩
theorem tof_of {x : Str} {t : Tr} (hr : run (items (ls x)) = [.t t]) (hl : (keysI (items (ls x))).length ≤ 60) (hp : (keysI (items (ls x))).Pairwise (· < ·)) : OfT x t := by
  obtain ⟨h1, h2⟩ := run_cat (items (ls x))
  rw [hr, items_cat] at h1
  have hb : BdT t := h2 t (by rw [hr]; simp)
  have e : ls x = showL t := by rw [← h1]; simp [catR, Hi.cat]
  rw [e, items_show hb, keys_it t hb] at hl hp
  rw [Tr.keys_length] at hl
  exact ⟨hb, e, ord_up t _ _ hp (fun _ _ _ z => nomatch z) (fun _ _ _ z => nomatch z), hl⟩
end K48
namespace K48
open PySem L2 L3 PySem.NumText
noncomputable def HiIs (G : Hp) (v : V) : Hi → Prop
  | .s x => v = .str x
  | .t t => ∃ b u, v = .ref b ∧ G b = some (.lst [u]) ∧ Rep G u t.d
noncomputable def HsIs (G : Hp) : List V → List Hi → Prop
  | [], [] => True
  | v :: ws, h :: hp => HiIs G v h ∧ HsIs G ws hp
  | _, _ => False
theorem HiIs.mono {G G' : Hp} {v : V} {h : Hi} (x : HiIs G v h) (s : Same G G') : HiIs G' v h := by
  cases h with
  | s _ => exact x
  | t _ => obtain ⟨b, u, e, e1, r⟩ := x; exact ⟨b, u, e, s _ _ e1, r.mono s⟩
theorem HsIs.mono {G G' : Hp} (s : Same G G') : ∀ {ws : List V} {hp : List Hi}, HsIs G ws hp → HsIs G' ws hp
  | [], [], _ => trivial
  | _ :: _, _ :: _, h => ⟨h.1.mono s, HsIs.mono s h.2⟩
  | [], _ :: _, h => h.elim
  | _ :: _, [], h => h.elim
theorem HsIs.len {G : Hp} : ∀ {ws : List V} {hp : List Hi}, HsIs G ws hp → ws.length = hp.length
  | [], [], _ => rfl
  | _ :: _, _ :: _, h => by rw [List.length_cons, List.length_cons, HsIs.len h.2]
  | [], _ :: _, h => h.elim
  | _ :: _, [], h => h.elim
theorem HsIs.cons {G : Hp} {ws : List V} {h : Hi} {hp : List Hi} (x : HsIs G ws (h :: hp)) : ∃ v ws', ws = v :: ws' ∧ HiIs G v h ∧ HsIs G ws' hp := by
  cases ws with
  | nil => exact x.elim
  | cons v ws => exact ⟨v, ws, rfl, x⟩
theorem HiIs.tx {G G' : Hp} {v : V} {h : Hi} (x : HiIs G v h) (s : Same G G') : TxL G' v := by
  cases h with
  | s y => exact .inl ⟨y, x⟩
  | t _ => obtain ⟨b, u, e, e1, _⟩ := x; exact .inr ⟨b, _, e, s _ _ e1⟩
noncomputable abbrev rm2 (a b : Addr) (G : Hp) : Hp := rm a (rm b G)
theorem rm2_same {a b : Addr} {G : Hp} : Same (rm2 a b G) G := rm_same.trans rm_same
theorem rm2_a {a b : Addr} (h : a ≠ b) {G : Hp} {o : HO} : rm2 a b (upd G a o) = rm2 a b G := by
  funext c
  unfold rm2
  by_cases h1 : c = a
  · subst h1; rw [rm_self, rm_self]
  · rw [rm_ne h1, rm_ne h1]
    by_cases h2 : c = b
    · subst h2; rw [rm_self, rm_self]
    · rw [rm_ne h2, rm_ne h2, upd_ne h1]
theorem rm2_b {a b : Addr} {G : Hp} {o : HO} : rm2 a b (upd G b o) = rm2 a b G := by unfold rm2; rw [rm_upd]
theorem rm2_keep {a a' b : Addr} {G G' : Hp} (s : Same G G') (n : G a' = none ∨ a' = a) : Same (rm2 a b G) (rm2 a' b G') := fun c o e => by
  unfold rm2 at e ⊢
  by_cases h1 : c = a
  · subst h1; rw [rm_self] at e; cases e
  rw [rm_ne h1] at e
  by_cases h2 : c = b
  · subst h2; rw [rm_self] at e; cases e
  rw [rm_ne h2] at e
  have h3 : c ≠ a' := fun z => n.elim (fun z' => by rw [← z, e] at z'; cases z') fun z' => h1 (z.trans z')
  rw [rm_ne h3, rm_ne h2]
  exact s _ _ e
theorem rm2_at {a b c : Addr} {G : Hp} (h1 : c ≠ a) (h2 : c ≠ b) : rm2 a b G c = G c := by unfold rm2; rw [rm_ne h1, rm_ne h2]
theorem cut7 (R : List V) (a b c d e f g : V) : cutV (R ++ [a, b, c, d, e, f, g]) (some (-7)) (some (-1)) = [a, b, c, d, e, f] := by
  unfold cutV
  have h1 : HT.sIx (R ++ [a, b, c, d, e, f, g]).length 0 (some (-7)) = R.length := by
    unfold HT.sIx
    dsimp only
    rw [if_pos (by decide), List.length_append]; simp; lia
  have h2 : HT.sIx (R ++ [a, b, c, d, e, f, g]).length (R ++ [a, b, c, d, e, f, g]).length (some (-1)) = R.length + 6 := by
    unfold HT.sIx
    dsimp only
    rw [if_pos (by decide), List.length_append]; simp; lia
  rw [h1, h2, List.drop_left, show R.length + 6 - R.length = 6 by lia]; rfl
theorem cutR (R : List V) (a b c d e f g : V) : cutV (R ++ [a, b, c, d, e, f, g]) none (some (-7)) = R := by
  unfold cutV
  have h1 : HT.sIx (R ++ [a, b, c, d, e, f, g]).length 0 none = 0 := rfl
  have h2 : HT.sIx (R ++ [a, b, c, d, e, f, g]).length (R ++ [a, b, c, d, e, f, g]).length (some (-7)) = R.length := by
    unfold HT.sIx
    dsimp only
    rw [if_pos (by decide), List.length_append]; simp; lia
  rw [h1, h2, List.drop_zero, Nat.sub_zero, List.take_left]
theorem red_few {hp : List Hi} (h : hp.length < 6) : red hp = .s tCl :: hp := red_stay fun r w l rest e _ => by
  rw [e] at h
  exact absurd h (Nat.not_lt.mpr (by show 6 ≤ rest.length + 1 + 1 + 1 + 1 + 1 + 1; lia))
theorem run_snoc (A : List Str) (it : Str) : run (A ++ [it]) = hstep (run A) it := by unfold run; rw [List.foldl_append]; rfl
theorem red_mem {hp : List Hi} {y : Str} (h : Hi.s y ∈ red hp) : Hi.s y ∈ hp ∨ y = tCl := by
  rcases red_or hp with e | ⟨r, w, l, rest, e, hw, e'⟩
  · rw [e] at h
    rcases List.mem_cons.mp h with q | q
    · cases q; exact .inr rfl
    · exact .inl q
  · rw [e'] at h
    rcases List.mem_cons.mp h with q | q
    · cases q
    · exact .inl (by rw [e]; simp [q])
theorem run_mem (A : List Str) : ∀ y, Hi.s y ∈ run A → y ∈ A := by
  have : ∀ (B : List Str) (hp : List Hi), (∀ y, Hi.s y ∈ hp → y ∈ A) → (∀ y ∈ B, y ∈ A) → ∀ y, Hi.s y ∈ B.foldl hstep hp → y ∈ A := fun B => by
    induction B with
    | nil => intro hp h _ y hy; exact h y hy
    | cons it B ih =>
      intro hp h hB y hy
      refine ih (hstep hp it) (fun z hz => ?_) (fun z hz => hB z (List.mem_cons_of_mem _ hz)) y hy
      have hit := hB it (List.mem_cons_self ..)
      unfold hstep at hz
      split at hz
      · rcases List.mem_cons.mp hz with e | e
        · cases e
        · exact h z e
      · split at hz
        · rename_i e
          rcases red_mem hz with q | q
          · exact h z q
          · rw [q, ← e]; exact hit
        · rcases List.mem_cons.mp hz with e | e
          · cases e; exact hit
          · exact h z e
  exact this A [] (fun y hy => nomatch hy) (fun y hy => hy)
theorem run_len (A : List Str) : (run A).length ≤ A.length := by
  have : ∀ (A : List Str) (hp : List Hi), (A.foldl hstep hp).length ≤ hp.length + A.length := fun A => by
    induction A with
    | nil => intro hp; exact Nat.le_refl _
    | cons it A ih =>
      intro hp
      have h1 := ih (hstep hp it)
      have h2 : (hstep hp it).length ≤ hp.length + 1 := by
        unfold hstep
        split
        · simp
        · split
          · rcases red_or hp with e | ⟨r, w, l, rest, e, hw, e'⟩
            · rw [e]; simp
            · rw [e', e]; simp
          · simp
      rw [List.foldl_cons, List.length_cons]; lia
  have := this A []
  show (A.foldl hstep []).length ≤ _
  simpa using this
theorem keysI_len (A : List Str) : (keysI A).length ≤ A.length := by
  unfold keysI
  rw [List.length_map]; exact List.length_filter_le _ _
theorem item_t {x : Str} (h : T48 x) {y : Str} (hy : y ∈ items (ls x)) : T48 y := by
  have e := items_cat (ls x)
  have hin : ∀ (A : List Str), y ∈ A → (∀ c ∈ ls y, c ∈ cat A) ∧ (ls y).length ≤ (cat A).length := fun A => by
    induction A with
    | nil => intro h; cases h
    | cons a A ih =>
      intro h
      have ec : cat (a :: A) = ls a ++ cat A := by simp [cat]
      rw [ec, List.length_append]
      rcases List.mem_cons.mp h with rfl | h
      · exact ⟨fun c hc => List.mem_append_left _ hc, by lia⟩
      · have := ih h
        exact ⟨fun c hc => List.mem_append_right _ (this.1 c hc), by lia⟩
  have := hin _ hy
  rw [e] at this
  refine ⟨?_, fun c hc => h.2 c (this.1 c hc)⟩
  have hl := h.1
  rw [ls_len] at hl ⊢
  lia
theorem items_len (l : List Nat) : (items l).length ≤ 2 * l.length + 1 := by
  have h := its_len l
  have hw : (wrd (its l).2).length ≤ 1 := by unfold wrd; split <;> simp
  unfold items
  rw [List.length_append]; lia
end K48
namespace K48
open PySem L2 L3 PySem.NumText
theorem rm2_of {a b : Addr} {H G : Hp} (s : Same H G) (h1 : H a = none) (h2 : H b = none) : Same H (rm2 a b G) := fun c o e => by
  rw [rm2_at (fun z => by rw [z, h1] at e; cases e) (fun z => by rw [z, h2] at e; cases e)]
  exact s _ _ e
theorem ix_last {α : Type} (R : List α) (a : α) : ixN (R ++ [a]).length (-1) = some R.length := by
  unfold ixN
  rw [if_neg (by decide), if_pos (by rw [List.length_append, List.length_singleton]; lia), List.length_append, List.length_singleton]
  congr 1
  lia
theorem set_last {α : Type} (R : List α) (a v : α) : (R ++ [a]).set R.length v = R ++ [v] := by simp
noncomputable def push (hp : List Hi) (it : Str) : List Hi := if it = tDot then .t .nil :: hp else .s it :: hp
theorem hstep_push {hp : List Hi} {it : Str} (h : ¬ it = tCl) : hstep hp it = push hp it := by unfold hstep push; rw [if_neg h]
theorem six {hp : List Hi} (h : 6 ≤ hp.length) : ∃ a b c d e f r, hp = a :: b :: c :: d :: e :: f :: r := by
  have one : ∀ {n : Nat} {l : List Hi}, n + 1 ≤ l.length → ∃ a r, l = a :: r ∧ n ≤ r.length := fun {n l} h => by
    cases l with
    | nil => exact absurd h (Nat.not_succ_le_zero _)
    | cons a r => exact ⟨a, r, rfl, Nat.le_of_succ_le_succ h⟩
  obtain ⟨a, _, rfl, h1⟩ := one h
  obtain ⟨b, _, rfl, h2⟩ := one h1
  obtain ⟨c, _, rfl, h3⟩ := one h2
  obtain ⟨d, _, rfl, h4⟩ := one h3
  obtain ⟨e, _, rfl, h5⟩ := one h4
  obtain ⟨f, r, rfl, h6⟩ := one h5
  exact ⟨a, b, c, d, e, f, r, rfl⟩
theorem HiIs.str {G : Hp} {x : Str} {h : Hi} (i : HiIs G (.str x) h) : h = .s x := by
  cases h with
  | s y => cases (show V.str x = .str y from i); rfl
  | t t => obtain ⟨b, u, e, _⟩ := i; cases e
theorem HiIs.rep {G G' : Hp} {v : V} {h : Hi} (i : HiIs G v h) (s : Same G G') : ∃ d, Rep G' v d ∧ d.isLst = (match h with | .s _ => false | .t _ => true) ∧ d.isStr = (match h with | .s _ => true | .t _ => false) := by
  cases h with
  | s y => cases (show v = .str y from i); exact ⟨_, .str y, rfl, rfl⟩
  | t t => obtain ⟨b, u, rfl, e, r⟩ := i; exact ⟨_, .lst (s _ _ e) (.cons (r.mono s) .nil), rfl, rfl⟩
theorem kv_len {x : Str} (h : keyB x = true) : x.length ≤ 640 := by
  have := num_len (kv_key h).1
  rw [(kv_key h).2.1] at this; lia
noncomputable def spTof : Sp := fun vs H Q _ => ∃ x : Str, vs = [.str x] ∧ T48 x ∧ (∀ t, OfT x t → ∀ r b v H', Same H H' → H' r = some (.lst [.ref b]) → H' b = some (.lst [v]) → Rep H' v t.d → Q (.ref r) H') ∧
  ((¬ ∃ t, OfT x t) → ∀ r us H', Same H H' → H' r = some (.lst us) → (us.length ≠ 1 ∨ ∃ y, us = [.str y]) → Q (.ref r) H')
inductive TofI (H : Hp) (x : Str) (lk li : Addr) (A : List Str) (i : Nat) (σ : L2.St) (G : Hp) : Prop
  | mk (lh : Addr) (ws : List V) (z3 z4 z5 z6 z7 z8 z9 : Option V) (e : σ = [some (.str x), some (.ref lh), some (.ref lk), z3, z4, z5, z6, z7, z8, z9]) (hne : lh ≠ lk) (eh : G lh = some (.lst ws.reverse)) (ek : G lk = some (.lst ((keysI (A.take i)).map V.int))) (hs : HsIs (rm2 lh lk G) ws (run (A.take i))) (hli : rm2 lh lk G li = some (.lst (A.map V.str))) (sH : Same H (rm2 lh lk G)) : TofI H x lk li A i σ G
theorem TofI.li {H : Hp} {x : Str} {lk li : Addr} {A : List Str} {i : Nat} {σ : L2.St} {G : Hp} (h : TofI H x lk li A i σ G) : G li = some (.lst (A.map V.str)) := by
  obtain ⟨_, _, _, _, _, _, _, _, _, _, _, _, _, _, hli, _⟩ := h
  exact rm2_same _ _ hli
theorem TofI.step {H : Hp} {x it : Str} {lk li : Addr} {A : List Str} {i : Nat} {σ : L2.St} {G : Hp} (htk : A.take (i + 1) = A.take i ++ [it]) (lh : Addr) (ws : List V) {z3 z4 z5 z6 z7 z8 z9 : Option V} (e : σ = [some (.str x), some (.ref lh), some (.ref lk), z3, z4, z5, z6, z7, z8, z9]) (hne : lh ≠ lk) (eh : G lh = some (.lst ws.reverse)) (ek : G lk = some (.lst ((keysI (A.take i ++ [it])).map V.int))) (hs : HsIs (rm2 lh lk G) ws (hstep (run (A.take i)) it)) (hli : rm2 lh lk G li = some (.lst (A.map V.str))) (sH : Same H (rm2 lh lk G)) : TofI H x lk li A (i + 1) σ G :=
  ⟨lh, ws, _, _, _, _, _, _, _, e, hne, eh, by rw [htk]; exact ek, by rw [htk, run_snoc]; exact hs, hli, sH⟩
inductive TofM (H : Hp) (x : Str) (lh lk li : Addr) (A : List Str) (i : Nat) (it : Str) (z4 z5 z6 z7 z8 z9 : Option V) (σ : L2.St) (G : Hp) : Prop
  | mk (ws : List V) (e : σ = [some (.str x), some (.ref lh), some (.ref lk), some (.str it), z4, z5, z6, z7, z8, z9]) (eh : G lh = some (.lst ws.reverse)) (ek : G lk = some (.lst ((keysI (A.take i ++ [it])).map V.int))) (hs : HsIs (rm2 lh lk G) ws (push (run (A.take i)) it)) (hli : rm2 lh lk G li = some (.lst (A.map V.str))) (sH : Same H (rm2 lh lk G)) : TofM H x lh lk li A i it z4 z5 z6 z7 z8 z9 σ G
theorem HsIs.seven {C : Prop} {G : Hp} {ws : List V} {ht h0 h1 h2 h3 h4 h5 : Hi} {r : List Hi} (h : HsIs G ws (ht :: h0 :: h1 :: h2 :: h3 :: h4 :: h5 :: r))
    (k : ∀ vt v0 v1 v2 v3 v4 v5 wr, ws = vt :: v0 :: v1 :: v2 :: v3 :: v4 :: v5 :: wr → HiIs G v0 h0 → HiIs G v1 h1 → HiIs G v2 h2 → HiIs G v3 h3 → HiIs G v4 h4 → HiIs G v5 h5 → HsIs G wr r → C) : C := by
  obtain ⟨vt, _, rfl, _, h⟩ := h.cons
  obtain ⟨v0, _, rfl, i0, h⟩ := h.cons
  obtain ⟨v1, _, rfl, i1, h⟩ := h.cons
  obtain ⟨v2, _, rfl, i2, h⟩ := h.cons
  obtain ⟨v3, _, rfl, i3, h⟩ := h.cons
  obtain ⟨v4, _, rfl, i4, h⟩ := h.cons
  obtain ⟨v5, wr, rfl, i5, h⟩ := h.cons
  exact k vt v0 v1 v2 v3 v4 v5 wr rfl i0 i1 i2 i3 i4 i5 h
theorem six_elim {C : Prop} {hp : List Hi} (h : 6 ≤ hp.length) (k : ∀ a b c d e f r, hp = a :: b :: c :: d :: e :: f :: r → C) : C := by
  obtain ⟨a, b, c, d, e, f, r, q⟩ := six h
  exact k a b c d e f r q
theorem HiIs.rep_elim {C : Prop} {G G' : Hp} {v : V} {h : Hi} (i : HiIs G v h) (s : Same G G') (k : ∀ d, Rep G' v d → d.isLst = (match h with | .s _ => false | .t _ => true) → d.isStr = (match h with | .s _ => true | .t _ => false) → C) : C := by
  obtain ⟨d, r, l, t⟩ := i.rep s
  exact k d r l t
section
variable {P : Program} {w : World} {K : PySem.W.Frag} {mg : Str → Option Value} {base : Heap}
theorem ok_tof {f : Addr} (F : Fd K mg "_law_tree_of" s_law_tree_of f) (T : Tx K mg) (C_law_is_key : Cal P w K mg base CX0 1 "_law_is_key" spIsK) (C_law_items : Cal P w K mg base CX0 1 "_law_items" spIt) : Cal P w K mg base CX0 2 "_law_tree_of" spTof := by
  refine F.cal sc_law_tree_of (fun _ _ _ _ _ _ us hl => L3.bind1 (fun _ => rfl) us hl) (fun vs H Q E h => ?_) (fun cdv A outer s H vs Q E hr h => ?_)
  · obtain ⟨x, rfl, _⟩ := h; rfl
  · obtain ⟨x, rfl, ht, q, qN⟩ := h
    have hl := ht.1
    rw [ls_len] at hl
    have hil := items_len (ls x)
    have hit : ∀ y ∈ items (ls x), T48 y := fun y hy => item_t ht hy
    refine ⟨_, (bcons (sset (i := 1) sc_law_tree_of.nd rfl (by first | exact Or.inl rfl | exact Or.inr rfl) (qlst qnil))
      (bcons (sset (i := 2) sc_law_tree_of.nd rfl (by first | exact Or.inl rfl | exact Or.inr rfl) (qlst qnil))
      (bcons (sfor PassesOwn.never rfl (iseq K (qF C_law_items (hr.mono (by lia)) pass0 rfl (qcons (qv 0) qnil))) (gname (i := 3) sc_law_tree_of.nd rfl (by first | exact Or.inl rfl | exact Or.inr rfl))
        (bcons (sexpr (qBm K PySem.F.plainAttrs_list PySem.F.slot_list_append PySem.F.type_list_append mAppend (qv 1) (qcons (qv 3) qnil)))
        (bcons (sif (tcmp (rEqq hr) (qv 3) qstr (nomark _)) (bone (sasg (qlst (qcons qnon qnil)) (gsub (qv 1) (qun rNeg qint) xSet))) (bone (sif (ttru K (qF C_law_is_key (hr.mono (by lia)) pass0 rfl (qcons (qv 3) qnil)) (fun _ => rfl)) (bone (sexpr (qBm K PySem.F.plainAttrs_list PySem.F.slot_list_append PySem.F.type_list_append mAppend (qv 2) (qcons (qTy fIntT rfl T.b_int bt_int (qcons (qv 3) qnil)) qnil)))) bnil)))
        (bone (sif (QW.tst (wand (tcmp (rEqq hr) (qv 3) qstr (nomark _)) (wand1 (tcmp rGt (qB (fLen K) rfl T.b_len bt_len (qcons (qv 1) qnil)) qint (nomark _))))) (bcons (sasg (qslice (xSl K) (qv 1) (osome (qun rNeg qint)) (osome (qun rNeg qint))) (gtupL (n := 6) K rfl (gscons (gname (i := 4) sc_law_tree_of.nd rfl (by first | exact Or.inl rfl | exact Or.inr rfl)) (gscons (gname (i := 5) sc_law_tree_of.nd rfl (by first | exact Or.inl rfl | exact Or.inr rfl)) (gscons (gname (i := 6) sc_law_tree_of.nd rfl (by first | exact Or.inl rfl | exact Or.inr rfl)) (gscons (gname (i := 7) sc_law_tree_of.nd rfl (by first | exact Or.inl rfl | exact Or.inr rfl)) (gscons (gname (i := 8) sc_law_tree_of.nd rfl (by first | exact Or.inl rfl | exact Or.inr rfl)) (gscons (gname (i := 9) sc_law_tree_of.nd rfl (by first | exact Or.inl rfl | exact Or.inr rfl)) gsnil))))))))
          (bone (sif (QW.tst (wand (tcmp (rEqTxx hr) (qlst (qcons (qv 4) (qcons (qv 6) (qcons (qv 8) qnil)))) (qlst (qcons qstr (qcons qstr (qcons qstr qnil)))) (nomark _)) (wand (ttru K (qB (fIsi K) rfl T.b_isinstance bt_isinstance (qcons (qv 5) (qcons (qty rfl T.b_list bt_list) qnil))) (fun _ => rfl)) (wand1 (ttru K (qB (fIsi K) rfl T.b_isinstance bt_isinstance (qcons (qv 9) (qcons (qty rfl T.b_list bt_list) qnil))) (fun _ => rfl)))))) (bone (sif (QW.tst (wand (ttru K (qB (fIsi K) rfl T.b_isinstance bt_isinstance (qcons (qv 7) (qcons (qty rfl T.b_str bt_str) qnil))) (fun _ => rfl)) (wand1 (ttru K (qF C_law_is_key (hr.mono (by lia)) pass0 rfl (qcons (qv 7) qnil)) (fun _ => rfl))))) (bone (sset (i := 1) sc_law_tree_of.nd rfl (by first | exact Or.inl rfl | exact Or.inr rfl) (qop rAdd (qslice (xSl K) (qv 1) onone (osome (qun rNeg qint))) (qlst (qcons (qlst (qcons (qtup (qcons (qix (xIx K) (qv 5) qint (fun _ _ => rfl)) (qcons (qTy fIntT rfl T.b_int bt_int (qcons (qv 7) qnil)) (qcons (qix (xIx K) (qv 9) qint (fun _ _ => rfl)) qnil)))) qnil)) qnil))))) bnil)) bnil))) bnil)))))
      (bcons (sif (QW.tst (wor (tcmp rGt (qB (fLen K) rfl T.b_len bt_len (qcons (qv 2) qnil)) qint (nomark _)) (wor1 (tcmp (rNeq hr) (qv 2) (qSortSet K rfl T.b_sorted rfl T.b_set (qcons (qv 2) qnil)) (nomark _))))) (bone (sret (qlst (qcons qstr (qcons qstr qnil))))) bnil)
      (bone (sret (qv 1))))))), ?_⟩
    refine ⟨(show 0 ≤ sizeLine by decide), fun lh0 H1 n1 s1 e1 _ => ?_⟩
    refine ⟨(show 0 ≤ sizeLine by decide), fun lk H2 n2 s2 e2 _ => ?_⟩
    refine ⟨_, rfl, x, rfl, ht, fun li H3 n3 s3 e3 => ?_⟩
    generalize hA : items (ls x) = A at e3 hil hit
    have hk0 : lh0 ≠ lk := fun z => by rw [← z, e1] at n2; cases n2
    have e1' := (s2.trans s3) _ _ e1
    have e2' := s3 _ _ e2
    have hi1 : li ≠ lh0 := fun z => by rw [z, s2 _ _ e1] at n3; cases n3
    have hi2 : li ≠ lk := fun z => by rw [z, e2] at n3; cases n3
    refine ⟨li, rfl, .inl ⟨⟨_, SqL.of e3⟩, for_listN (xs := A.map V.str) (TofI H x lk li A)
      ⟨lh0, [], none, none, none, none, none, none, none, rfl, hk0, e1', e2', trivial, by rw [rm2_at hi1 hi2]; exact e3, rm2_of (s1.trans (s2.trans s3)) n1 (s1.free n2)⟩ (fun i σ G _ h => SqL.of h.li) ?_ ?_⟩⟩
    · rintro N B R i yv σ G hy hN _ hR ⟨lh, ws, z3, z4, z5, z6, z7, z8, z9, rfl, hne, eh, ek, hs, hli, sH⟩
      rw [List.getElem?_map] at hy
      obtain ⟨it, hit', rfl⟩ := Option.map_eq_some_iff.mp hy
      have hTi := hit it (List.mem_of_getElem? hit')
      have htk : A.take (i + 1) = A.take i ++ [it] := by rw [List.take_add_one, hit']; rfl
      have hil' := (List.getElem?_eq_some_iff.mp hit').1
      have hrl := run_len (A.take i)
      have hkl := keysI_len (A.take i)
      rw [List.length_take] at hrl hkl
      have hwl := hs.len
      have hmem : ∀ y, Hi.s y ∈ run (A.take i) → T48 y := fun y hy => hit y (List.mem_of_mem_take (run_mem _ y hy))
      refine ⟨_, rfl, .inl ⟨rfl, _, SqL.of eh⟩, _, rfl, lh, _, _, rfl, rfl, eh, sizeHuge48 (by rw [List.length_reverse]; lia), ?_⟩
      have ek1 : upd G lh (.lst (ws.reverse ++ [.str it])) lk = some (.lst ((keysI (A.take i)).map V.int)) := by rw [upd_ne (Ne.symm hne)]; exact ek
      have eW : rm2 lh lk (upd G lh (.lst (ws.reverse ++ [.str it]))) = rm2 lh lk G := rm2_a hne
      have eh1 : upd G lh (.lst (ws.reverse ++ [.str it])) lh = some (.lst (ws.reverse ++ [.str it])) := upd_same
      generalize upd G lh (.lst (ws.reverse ++ [.str it])) = G1 at ek1 eW eh1
      rw [← eW] at hs hli sH
      apply join (TofM H x lh lk li A i it z4 z5 z6 z7 z8 z9)
      case h2 =>
        intro hj
        refine ⟨_, rfl, _, rfl, ?_⟩
        rw [c_dot]
        by_cases hd : it = ⟨#[46]⟩
        · rw [decide_eq_true hd]
          refine iteT ?_
          refine ⟨(show 1 ≤ sizeLine by decide), fun b G2 n4 s4 e4 _ => ?_⟩
          have hbh : b ≠ lh := fun z => by rw [z, eh1] at n4; cases n4
          have hbk : b ≠ lk := fun z => by rw [z, ek1] at n4; cases n4
          refine ⟨_, rfl, _, rfl, lh, ws.reverse ++ [.str it], -1, ws.reverse.length, rfl, rfl, s4 _ _ eh1, ix_last _ _, ?_⟩
          rw [set_last]
          dsimp only
          have kp := rm2_keep (a := lh) (b := lk) s4 (.inr rfl)
          have eW2 : rm2 lh lk (upd G2 lh (.lst (ws.reverse ++ [.ref b]))) = rm2 lh lk G2 := rm2_a hne
          refine hj _ _ ⟨.ref b :: ws, rfl, ?_, ?_, ?_, ?_, ?_⟩
          · rw [upd_same, List.reverse_cons]
          · rw [upd_ne (Ne.symm hne), s4 _ _ ek1, keys_snoc, hd, key_sep.2.2.2]; simp
          · rw [eW2]
            unfold push
            rw [if_pos hd]
            exact ⟨⟨b, .non, rfl, by rw [rm2_at hbh hbk]; exact e4, .non⟩, hs.mono kp⟩
          · rw [eW2]; exact kp _ _ hli
          · rw [eW2]; exact sH.trans kp
        · rw [decide_eq_false hd]
          refine iteF ?_
          refine ⟨_, rfl, it, rfl, hTi, fun bb G2 s4 hb => ?_⟩
          refine ⟨_, rfl, ?_⟩
          have kp := rm2_keep (a := lh) (b := lk) s4 (.inr rfl)
          have hpu : push (run (A.take i)) it = .s it :: run (A.take i) := by unfold push; rw [if_neg hd]
          have ek2 := s4 _ _ ek1
          cases bb with
          | true =>
            have hkb : keyB it = true := (keyB_iff it).mpr (hb.mp rfl)
            refine iteT ?_
            refine ⟨_, rfl, .inl ⟨rfl, _, SqL.of ek2⟩, _, rfl, it, kv it, rfl, (kv_key hkb).2.2, kv_len hkb, lk, _, _, rfl, rfl, ek2, sizeHuge48 (by rw [List.length_map]; lia), ?_⟩
            refine hj _ _ ⟨.str it :: ws, rfl, ?_, ?_, ?_, ?_, ?_⟩
            · rw [upd_ne hne, List.reverse_cons]; exact s4 _ _ eh1
            · rw [upd_same, keys_snoc, if_pos hkb, List.map_append]; rfl
            · rw [rm2_b, hpu]; exact ⟨rfl, hs.mono kp⟩
            · rw [rm2_b]; exact kp _ _ hli
            · rw [rm2_b]; exact sH.trans kp
          | false =>
            have hkb : ¬ keyB it = true := fun z => nomatch hb.mpr ((keyB_iff it).mp z)
            refine iteF ?_
            refine hj _ _ ⟨.str it :: ws, rfl, ?_, ?_, ?_, kp _ _ hli, sH.trans kp⟩
            · rw [List.reverse_cons]; exact s4 _ _ eh1
            · rw [ek2, keys_snoc, if_neg hkb, List.append_nil]
            · rw [hpu]; exact ⟨rfl, hs.mono kp⟩
      rintro σ' G2 ⟨ws', rfl, eh2, ek2, hs2, hli2, sH2⟩
      clear hs hli sH ek1 eh1 eW ek eh
      refine ⟨_, rfl, _, rfl, ?_⟩
      rw [c_cl]
      by_cases hc : it = ⟨#[41]⟩
      case neg =>
        rw [decide_eq_false hc]
        refine iteF ?_
        refine iteF ?_
        refine hN _ _ (.step htk lh ws' rfl hne eh2 ek2 ?_ hli2 sH2)
        rw [hstep_push hc]; exact hs2
      rw [decide_eq_true hc]
      refine iteT ?_
      have hpu : push (run (A.take i)) it = .s tCl :: run (A.take i) := by unfold push; rw [if_neg (by rw [hc]; decide), hc]
      have hst : hstep (run (A.take i)) it = red (run (A.take i)) := by unfold hstep; rw [if_neg (by rw [hc]; decide), if_pos hc]
      rw [hpu] at hs2
      have hwl2 := hs2.len
      rw [List.length_cons] at hwl2
      refine ⟨_, rfl, lh, _, rfl, .inl (SqL.of eh2), _, _, rfl, rfl, _, rfl, ?_⟩
      rw [List.length_reverse]
      by_cases h6 : (6 : Int) < ((ws'.length : Nat) : Int)
      case neg =>
        rw [decide_eq_false h6]
        refine iteF ?_
        refine hN _ _ (.step htk lh ws' rfl hne eh2 ek2 ?_ hli2 sH2)
        rw [hst, red_few (by lia)]; exact hs2
      rw [decide_eq_true h6]
      refine iteT ?_
      refine six_elim (hp := run (A.take i)) (by lia) fun h0 h1 h2 h3 h4 h5 rest eq6 => ?_
      rw [eq6] at hst hs2 hmem hwl2 hrl
      refine hs2.seven fun vt v0 v1 v2 v3 v4 v5 wr eq7 i0 i1 i2 i3 i4 i5 hs9 => ?_
      subst eq7
      have er : (vt :: v0 :: v1 :: v2 :: v3 :: v4 :: v5 :: wr).reverse = wr.reverse ++ [v5, v4, v3, v2, v1, v0, vt] := by simp
      have eh3 := eh2
      rw [er] at eh3
      refine ⟨_, rfl, _, rfl, _, rfl, _, rfl, _, rfl, lh, _, rfl, SqL.of eh3, fun g G3 n5 s5 e5 _ => ?_⟩
      rw [cut7] at e5
      refine ⟨g, _, rfl, SqL.of e5, rfl, v5, _, rfl, v4, _, rfl, v3, _, rfl, v2, _, rfl, v1, _, rfl, v0, _, rfl, rfl, ?_⟩
      have stay : ∀ G', Same G2 G' → red (h0 :: h1 :: h2 :: h3 :: h4 :: h5 :: rest) = .s tCl :: (h0 :: h1 :: h2 :: h3 :: h4 :: h5 :: rest) → N [some (.str x), some (.ref lh), some (.ref lk), some (.str it), some v5, some v4, some v3, some v2, some v1, some v0] G' := fun G' sG hr =>
        have kp := rm2_keep (a := lh) (b := lk) sG (.inr rfl)
        hN _ _ (.step htk lh _ rfl hne (sG _ _ eh2) (sG _ _ ek2) (by rw [eq6, hst, hr]; exact hs2.mono kp) (kp _ _ hli2) (sH2.trans kp))
      have s23 := s5
      refine ⟨_, rfl, _, rfl, _, rfl, (show 3 ≤ sizeLine by decide), fun da G4 n6 s6 e6 _ => ?_⟩
      refine ⟨(show 3 ≤ sizeLine by decide), fun db G5 n7 s7 e7 _ => ?_⟩
      have s25 := s5.trans (s6.trans s7)
      have sW := (rm2_same (a := lh) (b := lk) (G := G2)).trans s25
      refine ⟨da, db, _, [tOp, tSp, tSp], rfl, rfl, s7 _ _ e6, by rw [e7, c_op, c_sp]; rfl, rfl, fun v hv => ?_, _, rfl, ?_⟩
      · simp only [List.mem_cons, List.not_mem_nil, or_false] at hv
        rcases hv with rfl | rfl | rfl
        · exact i5.tx sW
        · exact i3.tx sW
        · exact i1.tx sW
      by_cases he : [v5, v3, v1] = [tOp, tSp, tSp].map V.str
      case neg =>
        rw [decide_eq_false he]
        refine iteF ?_
        refine iteF ?_
        refine stay _ s25 (red_stay fun r w l rest' e hw => ?_)
        cases e
        refine he ?_
        rw [show v5 = .str tOp from i5, show v3 = .str tSp from i3, show v1 = .str tSp from i1]; rfl
      rw [decide_eq_true he]
      refine iteT ?_
      obtain ⟨rfl, rfl, rfl⟩ : v5 = .str tOp ∧ v3 = .str tSp ∧ v1 = .str tSp := by simpa using he
      obtain rfl := i5.str
      obtain rfl := i3.str
      obtain rfl := i1.str
      refine i4.rep_elim sW fun d4 r4 l4 t4 => ?_
      refine ⟨_, rfl, v4, _, _, _, rfl, r4.ty, kit_list K _, _, rfl, ?_⟩
      rw [l4]
      cases h4 with
      | s y =>
        refine iteF ?_
        refine iteF ?_
        exact stay _ s25 (red_stay fun r w l rest' e hw => by cases e)
      | t l =>
      refine iteT ?_
      refine i0.rep_elim sW fun d0 r0 l0 t0 => ?_
      refine ⟨_, rfl, v0, _, _, _, rfl, r0.ty, kit_list K _, _, rfl, ?_⟩
      rw [l0]
      cases h0 with
      | s y =>
        refine iteF ?_
        exact stay _ s25 (red_stay fun r w l rest' e hw => by cases e)
      | t r =>
      refine iteT ?_
      refine i2.rep_elim sW fun d2 r2 l2 t2 => ?_
      refine ⟨_, rfl, v2, _, _, _, rfl, r2.ty, kit_str K _, _, rfl, ?_⟩
      rw [t2]
      cases h2 with
      | t y =>
        refine iteF ?_
        refine iteF ?_
        exact stay _ s25 (red_stay fun r w l rest' e hw => by cases e)
      | s w =>
      refine iteT ?_
      cases (show v2 = .str w from i2)
      refine ⟨_, rfl, w, rfl, hmem w (by simp), fun bb G6 s8 hb => ?_⟩
      refine ⟨_, rfl, ?_⟩
      have s26 := s25.trans s8
      cases bb with
      | false =>
        refine iteF ?_
        exact stay _ s26 (red_stay fun r' w' l' rest' e hw => by cases e; exact nomatch hb.mpr ((keyB_iff _).mp hw))
      | true =>
      refine iteT ?_
      have hkb : keyB w = true := (keyB_iff w).mpr (hb.mp rfl)
      obtain ⟨bl, ul, rfl, el, rl⟩ := i4
      obtain ⟨br, ur, rfl, er', rr⟩ := i0
      have sW6 := (rm2_same (a := lh) (b := lk) (G := G2)).trans s26
      refine ⟨_, rfl, _, rfl, _, rfl, lh, _, rfl, SqL.of (s26 _ _ eh3), fun c1 G7 n9 s9 e9 _ => ?_⟩
      rw [cutR] at e9
      refine ⟨_, rfl, bl, [ul], 0, ul, rfl, rfl, .inl (SqL.of ((sW6.trans s9) _ _ el)), rfl, ?_⟩
      refine ⟨_, rfl, w, kv w, rfl, (kv_key hkb).2.2, kv_len hkb, ?_⟩
      refine ⟨_, rfl, br, [ur], 0, ur, rfl, rfl, .inl (SqL.of ((sW6.trans s9) _ _ er')), rfl, ?_⟩
      refine ⟨(show 3 ≤ sizeLine by decide), fun tp G8 n10 s10 e10 _ => ?_⟩
      refine ⟨(show 1 ≤ sizeLine by decide), fun nb G9 n11 s11 e11 _ => ?_⟩
      refine ⟨(show 1 ≤ sizeLine by decide), fun c2 G10 n12 s12 e12 _ => ?_⟩
      refine ⟨_, _, (s10.trans (s11.trans s12)) _ _ e9, e12, ?_, fun nh G11 n13 s13 e13 _ => ?_⟩
      · rw [List.length_reverse, List.length_singleton]
        simp only [List.length_cons] at hwl2 hrl
        exact Nat.le_of_lt (sizeHuge48 (by lia))
      have s27 := s26.trans s9
      have s28 := s27.trans s10
      have s2a := s28.trans (s11.trans s12)
      have s2b := s2a.trans s13
      have hnk : nh ≠ lk := fun z => by rw [z, s2a _ _ ek2] at n13; cases n13
      have kp : Same (rm2 lh lk G2) (rm2 nh lk G11) := rm2_keep s2b (.inl (s2a.free n13))
      have ht1 : tp ≠ nh := fun z => by rw [← z, (s11.trans s12) _ _ e10] at n13; cases n13
      have ht2 : tp ≠ lk := fun z => by rw [z, s27 _ _ ek2] at n10; cases n10
      have hn1 : nb ≠ nh := fun z => by rw [← z, s12 _ _ e11] at n13; cases n13
      have hn2 : nb ≠ lk := fun z => by rw [z, s28 _ _ ek2] at n11; cases n11
      refine hN _ _ (.step htk nh (.ref nb :: wr) rfl hnk ?_ (s2b _ _ ek2) ?_ (kp _ _ hli2) (sH2.trans kp))
      · rw [e13, List.reverse_cons]
      · rw [eq6, hst, red_go hkb]
        refine ⟨⟨nb, .ref tp, rfl, ?_, .tup (vs := [ul, .int (kv w), ur]) ?_ (.cons (rl.mono kp) (.cons (.int _) (.cons (rr.mono kp) .nil)))⟩, hs9.mono kp⟩
        · rw [rm2_at hn1 hn2]; exact (s12.trans s13) _ _ e11
        · rw [rm2_at ht1 ht2]; exact (s11.trans (s12.trans s13)) _ _ e10
    · rintro σ G ⟨lh, ws, z3, z4, z5, z6, z7, z8, z9, rfl, hne, eh, ek, hs, hli, sH⟩
      rw [List.length_map, List.take_length] at ek hs
      have sHG : Same H G := sH.trans rm2_same
      have hkl := keysI_len A
      subst hA
      refine ⟨_, rfl, lk, _, rfl, .inl (SqL.of ek), _, _, rfl, rfl, _, rfl, ?_⟩
      rw [List.length_map]
      have bad : (¬ ((keysI (items (ls x))).length ≤ 60 ∧ (keysI (items (ls x))).Pairwise (· < ·))) → ¬ ∃ t, OfT x t := fun z ⟨t, o⟩ => z (tof_ok o).2
      by_cases h60 : (60 : Int) < (((keysI (items (ls x))).length : Nat) : Int)
      · rw [decide_eq_true h60]
        refine iteT ?_
        refine iteT ?_
        refine ⟨(show 2 ≤ sizeLine by decide), fun r G' n4 s4 e4 _ => ?_⟩
        exact qN (bad fun z => by have := z.1; lia) r _ G' (sHG.trans s4) e4 (.inl (by decide))
      rw [decide_eq_false h60]
      refine iteF ?_
      refine ⟨_, rfl, _, rfl, lk, keysI (items (ls x)), rfl, SqL.of ek, by lia, fun qa G1 ms n4 s4 e4 hml hms => ?_⟩
      refine ne_ints (s4 _ _ ek) e4 ?_
      refine ⟨_, rfl, ?_⟩
      by_cases hp : (keysI (items (ls x))).Pairwise (· < ·)
      case neg =>
        rw [decide_eq_false (fun z => hp (hms.mp z.symm))]
        refine iteT ?_
        refine ⟨(show 2 ≤ sizeLine by decide), fun r G' n5 s5 e5 _ => ?_⟩
        exact qN (bad fun z => hp z.2) r _ G' (sHG.trans (s4.trans s5)) e5 (.inl (by decide))
      rw [decide_eq_true (hms.mpr hp).symm]
      refine iteF ?_
      refine ⟨_, rfl, ?_⟩
      have hk60 : (keysI (items (ls x))).length ≤ 60 := by lia
      have eh' := s4 _ _ eh
      have hwl := hs.len
      by_cases ho : ∃ t, OfT x t
      · obtain ⟨t, o⟩ := ho
        rw [(tof_ok o).1] at hs
        obtain ⟨v, ws', rfl, ⟨b, u, rfl, eb, ru⟩, hs'⟩ := hs.cons
        cases ws' with
        | cons _ _ => exact hs'.elim
        | nil =>
          have sW := (rm2_same (a := lh) (b := lk) (G := G)).trans s4
          exact q t o lh b u G1 (sHG.trans s4) eh' (sW _ _ eb) (ru.mono sW)
      · refine qN ho lh _ G1 (sHG.trans s4) eh' ?_
        rw [List.length_reverse]
        by_cases h1 : ws.length = 1
        · right
          cases hrn : run (items (ls x)) with
          | nil => rw [hrn, List.length_nil] at hwl; lia
          | cons h hp' =>
            cases hp' with
            | cons _ _ => rw [hrn, List.length_cons, List.length_cons] at hwl; lia
            | nil =>
              cases h with
              | t t => exact absurd ⟨t, tof_of hrn hk60 hp⟩ ho
              | s y =>
                rw [hrn] at hs
                obtain ⟨v, ws', rfl, i, hs'⟩ := hs.cons
                cases ws' with
                | cons _ _ => exact hs'.elim
                | nil => exact ⟨y, by rw [show v = .str y from i]; rfl⟩
        · exact .inl h1
end
end K48
namespace K48
open PySem L2 L3 PySem.NumText
noncomputable def spRight : Sp := fun vs H Q _ => ∃ x : Str, vs = [.str x] ∧ T48 x ∧ ∀ H', Same H H' → Q (.bl true) H'
theorem tree_pure : ∀ t : Tr, t.d.pure = true
  | .nil => rfl
  | .node l k r => by
    show (l.d.pure && (true && (r.d.pure && true))) = true
    rw [tree_pure l, tree_pure r]; rfl
theorem ne_tree {H : Hp} {x y : V} {t : Tr} {Q : VK} (rx : Rep H x t.d) (ry : Rep H y t.d) (hz : t.size ≤ 60) (h : Q (.bl false) H) : rNeG 150 x y H Q := by
  have hd : t.d.dep ≤ 150 := by have := Tr.dep_d t; have := Tr.ht_size t; lia
  have hq : rNeD 150 x y H Q := ⟨_, _, rx, ry, tree_pure t, tree_pure t, hd, by rw [D.eqv_refl]; exact h⟩
  cases t with
  | nil => cases rx; exact hq
  | node l k r => cases rx; exact hq
theorem pgs_reps {H : Hp} : ∀ {bs : List Addr} {L : List (List Int)}, Pgs H bs L → Reps H (bs.map V.ref) (L.map fun p => D.lst (p.map D.int))
  | [], [], _ => .nil
  | b :: bs, p :: L, h => .cons (.lst h.1 (Reps.ints p)) (pgs_reps h.2)
  | [], _ :: _, h => h.elim
  | _ :: _, [], h => h.elim
theorem lay_pure (L : List (List Int)) : (D.lst (L.map fun p => D.lst (p.map D.int))).pure = true := by
  rw [D.pure]
  induction L with
  | nil => rfl
  | cons p L ih =>
    rw [List.map_cons, pures, D.pure, pures_ints, ih]; rfl
theorem lay_dep (L : List (List Int)) : (D.lst (L.map fun p => D.lst (p.map D.int))).dep ≤ 2 := by
  rw [D.dep]
  have : deps (L.map fun p => D.lst (p.map D.int)) ≤ 1 := by
    induction L with
    | nil => exact Nat.zero_le _
    | cons p L ih =>
      rw [List.map_cons, deps, D.dep, deps_ints]
      exact Nat.max_le.mpr ⟨Nat.le_refl _, ih⟩
  lia
theorem eq_lay {H : Hp} {a b : Addr} {as bs : List Addr} {L : List (List Int)} {Q : VK} (ea : H a = some (.lst (as.map V.ref))) (pa : Pgs H as L) (eb : H b = some (.lst (bs.map V.ref))) (pb : Pgs H bs L) (h : Q (.bl true) H) : rEqG 150 (.ref a) (.ref b) H Q :=
  ⟨_, _, .lst ea (pgs_reps pa), .lst eb (pgs_reps pb), lay_pure L, lay_pure L, Nat.le_trans (lay_dep L) (by decide), by rw [D.eqv_refl]; exact h⟩
theorem oft_one {x : Str} {t t' : Tr} (o : OfT x t) (o' : OfT x t') : t = t' := (show_free t t' (r := []) (r' := []) o.1 o'.1 (by rw [← o.2.1, ← o'.2.1])).1
theorem le_sum {n : Nat} : ∀ {l : List Nat}, n ∈ l → n ≤ l.sum
  | a :: l, h => by
    rw [List.sum_cons]
    rcases List.mem_cons.mp h with e | e
    · lia
    · have := le_sum e; lia
theorem ofl_one {x : Str} {L L' : List (List Int)} (o : OfL x L) (o' : OfL x L') : L = L' := by
  have e := o.2.1.symm.trans o'.2.1
  have hp : ∀ {p p' : List Int}, (∀ k ∈ p, Bd k) → (∀ k ∈ p', Bd k) → p.map num = p'.map num → p = p' := by
    intro p
    induction p with
    | nil => intro p' _ _ h; rw [List.map_nil] at h; exact (List.map_eq_nil_iff.mp h.symm).symm
    | cons k p ih =>
      intro p' h1 h2 h
      cases p' with
      | nil => cases h
      | cons k' p' =>
        rw [List.map_cons, List.map_cons] at h
        obtain ⟨a, b⟩ := List.cons.inj h
        have ek : k = k' := by
          have := num_reads (h1 k (List.mem_cons_self ..))
          rw [a, num_reads (h2 k' (List.mem_cons_self ..))] at this
          cases this; rfl
        rw [ek, ih (fun k hk => h1 k (List.mem_cons_of_mem _ hk)) (fun k hk => h2 k (List.mem_cons_of_mem _ hk)) b]
  have h1 := o.1
  have h2 := o'.1
  clear o o'
  induction L generalizing L' with
  | nil => rw [List.map_nil] at e; exact (List.map_eq_nil_iff.mp e.symm).symm
  | cons p L ih =>
    cases L' with
    | nil => cases e
    | cons p' L' =>
      rw [List.map_cons, List.map_cons] at e
      obtain ⟨a, b⟩ := List.cons.inj e
      rw [hp (h1 p (List.mem_cons_self ..)) (h2 p' (List.mem_cons_self ..)) a, ih b (fun p hp => h1 p (List.mem_cons_of_mem _ hp)) (fun p hp => h2 p (List.mem_cons_of_mem _ hp))]
section
variable {P : Program} {w : World} {K : PySem.W.Frag} {mg : Str → Option Value} {base : Heap}
theorem ok_right {f cX : Addr} (F : Fd K mg "_law_right" s_law_right f) (T : Tx K mg) (C_law_tree_of : Cal P w K mg base CX0 2 "_law_tree_of" spTof) (C_law_refused : Cal P w K mg base CX0 83 "_law_refused" spRef) (C_read_tree : Cal P w K mg base (CXE P w) 82 "read_tree" (spRtE cX)) (C_show_tree : Cal P w K mg base CX0 61 "show_tree" (spShow 61))
    (C_law_layout_of : Cal P w K mg base CX0 2 "_law_layout_of" spLof) (C_read_layout : Cal P w K mg base (CXE P w) 4 "read_layout" (spLyE cX)) (C_show_layout : Cal P w K mg base CX0 2 "show_layout" spShL) : Cal P w K mg base CX0 84 "_law_right" spRight := by
  refine F.cal sc_law_right (fun _ _ _ _ _ _ us hl => L3.bind1 (fun _ => rfl) us hl) (fun vs H Q E h => ?_) (fun cdv A outer s H vs Q E hr h => ?_)
  · obtain ⟨x, rfl, _⟩ := h; rfl
  · obtain ⟨x, rfl, ht, q⟩ := h
    refine ⟨_, (bcons (sset (i := 1) sc_law_right.nd rfl (by first | exact Or.inl rfl | exact Or.inr rfl) (qF C_law_tree_of (hr.mono (by lia)) pass0 rfl (qcons (qv 0) qnil)))
      (bcons (sif (QW.tst (wor (tcmp (rNeq hr) (qB (fLen K) rfl T.b_len bt_len (qcons (qv 1) qnil)) qint (nomark _)) (wor1 (tnot (ttru K (qB (fIsi K) rfl T.b_isinstance bt_isinstance (qcons (qix (xIx K) (qv 1) qint (fun _ _ => rfl)) (qcons (qty rfl T.b_list bt_list) qnil))) (fun _ => rfl)))))) (bone (sif (tnot (ttru K (qF C_law_refused (hr.mono (by lia)) pass0 rfl (qcons (qv 0) (qcons qbl qnil))) (fun _ => rfl))) (bone (sret qbl)) bnil)) (bone (sif (QW.tst (wor (tcmp (rNeq hr) (qF C_read_tree (hr.mono (by lia)) passN rfl (qcons (qv 0) qnil)) (qix (xIx K) (qix (xIx K) (qv 1) qint (fun _ _ => rfl)) qint (fun _ _ => rfl)) (nomark _)) (wor1 (tcmp (rNeq hr) (qF C_show_tree (hr.mono (by lia)) pass0 rfl (qcons (qix (xIx K) (qix (xIx K) (qv 1) qint (fun _ _ => rfl)) qint (fun _ _ => rfl)) qnil)) (qv 0) (nomark _))))) (bone (sret qbl)) bnil)))
      (bcons (sset (i := 1) sc_law_right.nd rfl (by first | exact Or.inl rfl | exact Or.inr rfl) (qF C_law_layout_of (hr.mono (by lia)) pass0 rfl (qcons (qv 0) qnil)))
      (bcons (sif (tcmp (rEqq hr) (qv 1) (qlst qnil) (nomark _)) (bone (sret (qF C_law_refused (hr.mono (by lia)) pass0 rfl (qcons (qv 0) (qcons qbl qnil))))) bnil)
      (bone (sret (qand K (qcmp (rEqq hr) (qF C_read_layout (hr.mono (by lia)) passN rfl (qcons (qv 0) qnil)) (qix (xIx K) (qv 1) qint (fun _ _ => rfl)) (nomark _)) (qone (qcmp (rEqq hr) (qF C_show_layout (hr.mono (by lia)) pass0 rfl (qcons (qix (xIx K) (qv 1) qint (fun _ _ => rfl)) qnil)) (qv 0) (nomark _)))))))))), ?_⟩
    apply join (fun σ' G => ∃ z, σ' = [some (.str x), z] ∧ Same H G)
    case h2 =>
      intro hj
      refine ⟨_, rfl, x, rfl, ht, fun t o r b v H1 s1 e1 e2 r1 => ?_, fun no r us H1 s1 e1 hu => ?_⟩
      · have hz := o.2.2.2
        refine ⟨_, rfl, r, _, rfl, .inl (SqL.of e1), _, rfl, ?_⟩
        refine iteF ?_
        refine ⟨_, rfl, r, _, 0, .ref b, rfl, rfl, .inl (SqL.of e1), rfl, .ref b, _, _, _, rfl, (Rep.lst e2 (.cons r1 .nil) : Rep H1 (.ref b) (.lst [t.d])).ty, kit_list K _, _, rfl, ?_⟩
        refine iteF ?_
        refine ⟨_, rfl, .str x, .str x, rfl, .str x, .inl ⟨x, rfl, ht, fun t' o' v' H2 s2 r2 => ?_, fun no => absurd ⟨t, o⟩ no⟩⟩
        obtain rfl : t = t' := oft_one o o'
        refine ⟨_, rfl, r, _, 0, .ref b, rfl, rfl, .inl (SqL.of (s2 _ _ e1)), rfl, b, _, 0, v, rfl, rfl, .inl (SqL.of (s2 _ _ e2)), rfl, ?_⟩
        refine ne_tree r2 (r1.mono s2) hz ?_
        refine ⟨_, rfl, ?_⟩
        refine iteF ?_
        refine ⟨_, rfl, r, _, 0, .ref b, rfl, rfl, .inl (SqL.of (s2 _ _ e1)), rfl, b, _, 0, v, rfl, rfl, .inl (SqL.of (s2 _ _ e2)), rfl, v, t, rfl, r1.mono s2, ?_, hz, o.1, ?_⟩
        · have := Tr.ht_size t; lia
        refine ⟨_, rfl, _, rfl, ?_⟩
        rw [tree_of_is o.2.1, decide_eq_true rfl]
        refine iteF ?_
        exact hj _ _ ⟨_, rfl, s1.trans s2⟩
      · have fin : ∀ G, Same H1 G → spRef [.str x, .bl false] G (fun v H' => v = .bl true ∧ Same G H') (fun _ _ _ => False) := fun G sG => ⟨.str x, .str x, false, rfl, .str x, .inr ⟨x, rfl, ht, no⟩, fun H' s' => ⟨rfl, s'⟩⟩
        refine ⟨_, rfl, r, _, rfl, .inl (SqL.of e1), _, rfl, ?_⟩
        rcases hu with hu | ⟨y, rfl⟩
        · rw [decide_eq_false (fun z => hu (by lia))]
          refine iteT ?_
          refine iteT ?_
          refine ⟨_, rfl, .str x, .str x, false, rfl, .str x, .inr ⟨x, rfl, ht, no⟩, fun H2 s2 => ?_⟩
          refine ⟨_, rfl, ?_⟩
          refine iteF ?_
          exact hj _ _ ⟨_, rfl, s1.trans s2⟩
        · refine iteF ?_
          refine ⟨_, rfl, r, _, 0, .str y, rfl, rfl, .inl (SqL.of e1), rfl, .str y, _, _, _, rfl, (Rep.str y : Rep H1 _ _).ty, kit_list K _, _, rfl, ?_⟩
          refine iteT ?_
          refine ⟨_, rfl, .str x, .str x, false, rfl, .str x, .inr ⟨x, rfl, ht, no⟩, fun H2 s2 => ?_⟩
          refine ⟨_, rfl, ?_⟩
          refine iteF ?_
          exact hj _ _ ⟨_, rfl, s1.trans s2⟩
    rintro σ' G ⟨z, rfl, sG⟩
    refine ⟨_, rfl, x, rfl, ht, fun L o r lr bs H1 s1 e1 e2 pg => ?_, fun no r H1 s1 e1 => ?_⟩
    · refine ⟨_, rfl, (show 0 ≤ sizeLine by decide), fun k0 H2 n2 s2 e3 _ => ?_⟩
      have rl : Rep H2 (.ref r) (.lst [.lst (L.map fun p => D.lst (p.map D.int))]) := .lst (s2 _ _ e1) (.cons (.lst (s2 _ _ e2) (pgs_reps (pg.mono s2))) .nil)
      have pl : (D.lst [.lst (L.map fun p => D.lst (p.map D.int))]).pure = true := by
        rw [D.pure, pures, lay_pure]; rfl
      have dl : (D.lst [.lst (L.map fun p => D.lst (p.map D.int))]).dep ≤ 150 := by
        have := lay_dep L
        rw [D.dep, deps, deps]; lia
      refine ⟨_, _, rl, (.lst e3 .nil : Rep H2 (.ref k0) (.lst [])), pl, rfl, dl, ?_⟩
      rw [show (D.lst [.lst (L.map fun p => D.lst (p.map D.int))]).eqv (.lst []) = false by rw [D.eqv]; exact eqvs_len _ _ (by simp)]
      refine ⟨_, rfl, ?_⟩
      refine iteF ?_
      refine ⟨_, rfl, .str x, .str x, rfl, .str x, .inl ⟨x, rfl, ht, fun L' o' r' H3 bs' s3 e4 pg' => ?_, fun no => absurd ⟨L, o⟩ no⟩⟩
      obtain rfl : L = L' := ofl_one o o'
      have s23 := s2.trans s3
      refine ⟨_, rfl, r, _, 0, .ref lr, rfl, rfl, .inl (SqL.of (s23 _ _ e1)), rfl, ?_⟩
      refine eq_lay e4 pg' (s23 _ _ e2) (pg.mono s23) ?_
      refine ⟨_, rfl, ?_⟩
      refine iteT ?_
      have hsum : ∀ p ∈ L, p.length ≤ 60 := fun p hp => by
        have h1 := o.2.2.2
        have h2 : p.length ≤ (L.map List.length).sum := le_sum (List.mem_map.mpr ⟨p, hp, rfl⟩)
        lia
      refine ⟨_, rfl, r, _, 0, .ref lr, rfl, rfl, .inl (SqL.of (s23 _ _ e1)), rfl, lr, bs, L, rfl, s23 _ _ e2, pg.mono s23, o.2.2.1, fun p hp => ⟨hsum p hp, o.1 p hp⟩, fun H4 s4 => ?_⟩
      refine ⟨_, rfl, ?_⟩
      rw [lay_of o]
      show Q (.bl (decide (x = x))) H4
      rw [decide_eq_true rfl]
      exact q H4 (sG.trans (s1.trans (s23.trans s4)))
    · refine ⟨_, rfl, (show 0 ≤ sizeLine by decide), fun k0 H2 n2 s2 e3 _ => ?_⟩
      refine eq_ints (xs := []) (ys := []) (s2 _ _ e1) e3 ?_
      refine ⟨_, rfl, ?_⟩
      refine iteT ?_
      exact ⟨_, rfl, .str x, .str x, true, rfl, .str x, .inr ⟨x, rfl, ht, no⟩, fun H3 s3 => q H3 (sG.trans (s1.trans (s2.trans s3)))⟩
end
end K48
namespace L3
open PySem PySem.Spec PyProof.Rows L2
section
variable {X : Cx}
theorem rep_one (c : Nat) : ∀ (n : Nat) (acc : Array Nat), (List.replicate n #[c]).foldl (· ++ ·) acc = acc ++ (List.replicate n c).toArray
  | 0, acc => by simp
  | n + 1, acc => by
    rw [List.replicate_succ, List.foldl_cons, rep_one c n, List.replicate_succ, Array.append_assoc]
    congr 1
    refine Array.toList_inj.mp ?_
    simp
noncomputable def rMulSg : R2 := fun x y H Q => ∃ (c n : Nat), x = .str ⟨#[c]⟩ ∧ y = .int (n : Int) ∧ 2 ≤ n ∧ n ≤ 1000 ∧ Q (.str ⟨(List.replicate n c).toArray⟩) H
theorem op_mulSg : OpR X (binaryOp .Mult) rMulSg := by
  intro pins s σ H x y v u Q I rx ry h
  obtain ⟨c, n, rfl, rfl, h1, h2, q⟩ := h
  obtain ⟨t, rfl⟩ := rx
  obtain ⟨t', rfl⟩ := ry
  have e1 : ¬ ((n : Int) < 1) := by lia
  have e2 : ((n : Int) == 1 || (⟨#[c]⟩ : Str).length == 0) = false := by
    rw [Bool.or_eq_false_iff]
    exact ⟨by simp; lia, rfl⟩
  have ok := mulOk_of (x := ⟨#[c]⟩) (n := (n : Int)) 1 1000 (Nat.le_refl _) (by lia) (by lia) (by decide) (by decide)
  refine P.mul_str ok.1 ok.2.1 ok.2.2 ?_
  rw [if_neg e1, if_neg (by rw [e2]; decide)]
  rw [Int.toNat_natCast, rep_one, Array.empty_append]
  refine ⟨?_, ⟨.str _, H, I.tok _, ⟨_, rfl⟩, q⟩⟩
  show (List.replicate n c).toArray.size ≤ sizeLine
  rw [List.size_toArray, List.length_replicate]
  exact Nat.le_trans h2 (by decide)
theorem rMulS : ROp X (binaryOp .Mult) rMulSg := .mk op_mulSg
end
end L3
namespace K48
open PySem L2 L3 PySem.NumText
noncomputable def Tb (n : Nat) (x : Str) : Prop := x.length ≤ n ∧ ∀ c ∈ ls x, c < 128
theorem Tb.le {n m : Nat} {x : Str} (h : Tb n x) (hm : n ≤ m) : Tb m x := ⟨Nat.le_trans h.1 hm, h.2⟩
theorem Tb.app {n m : Nat} {x y : Str} (h : Tb n x) (h' : Tb m y) : Tb (n + m) (x ++ y) := by
  constructor
  · have a := h.1
    have b := h'.1
    rw [ls_len] at a b ⊢
    rw [ls_app, List.length_append]; lia
  · intro c hc
    rw [ls_app] at hc
    rcases List.mem_append.mp hc with e | e
    · exact h.2 c e
    · exact h'.2 c e
theorem Tb.num {n : Int} (h : Bd n) : Tb 61 (num n) := ⟨(num_len h).2, fun c hc => by have := num_signs n c hc; lia⟩
theorem Tb.rep {n c : Nat} (h : c < 128) : Tb n ⟨(List.replicate n c).toArray⟩ := by
  constructor
  · show (List.replicate n c).toArray.size ≤ n
    simp
  · intro d hd
    have : d ∈ List.replicate n c := by simpa using hd
    rw [List.mem_replicate] at this
    rw [this.2]; exact h
noncomputable def tbV (n : Nat) : V → Bool
  | .str y => decide (y.length ≤ n) && (ls y).all fun c => decide (c < 128)
  | _ => false
theorem tbV_of {n : Nat} {v : V} (h : tbV n v = true) : ∃ y, v = .str y ∧ Tb n y := by
  cases v with
  | str y =>
    unfold tbV at h
    rw [Bool.and_eq_true, List.all_eq_true] at h
    exact ⟨y, rfl, of_decide_eq_true h.1, fun c hc => of_decide_eq_true (h.2 c hc)⟩
  | _ => cases h
noncomputable def jl (ts : List Str) : Nat := (ts.map (·.length)).sum + ts.length
theorem jl_nil : jl [] = 0 := rfl
theorem jl_cons (a : Str) (r : List Str) : jl (a :: r) = a.length + 1 + jl r := by unfold jl; rw [List.map_cons, List.sum_cons, List.length_cons]; lia
theorem jl_app (A B : List Str) : jl (A ++ B) = jl A + jl B := by unfold jl; rw [List.map_append, List.sum_append, List.length_append]; lia
theorem jl_le {B : Nat} : ∀ (A : List Str), (∀ y ∈ A, y.length ≤ B) → jl A ≤ A.length * (B + 1)
  | [], _ => Nat.zero_le _
  | a :: A, h => by
    have h1 := h a (List.mem_cons_self ..)
    have h2 := jl_le A fun y hy => h y (List.mem_cons_of_mem _ hy)
    rw [jl_cons, List.length_cons, Nat.succ_mul]; lia
theorem jl_ok {c : Nat} {ts : List Str} (h : jl ts ≤ 16777216) : JoinOk ⟨#[c]⟩ ts = true := by
  have : ∀ (ts : List Str) (n : Nat), ts.foldl (fun m y => m + y.length + (⟨#[c]⟩ : Str).length) n = n + jl ts := fun ts => by
    induction ts with
    | nil => intro n; rw [jl_nil]; rfl
    | cons a r ih =>
      intro n
      rw [List.foldl_cons, ih, jl_cons]
      show n + a.length + 1 + _ = _
      lia
  unfold JoinOk
  rw [List.foldl_toArray', this, Nat.zero_add, PyProof.Rows.short24 h]
  · rfl
  · rfl
theorem jl_tb {c : Nat} (hc : c < 128) {ts : List Str} (h : ∀ y ∈ ts, ∀ d ∈ ls y, d < 128) : Tb (jl ts) (Str.join ⟨#[c]⟩ ts) := by
  constructor
  · have := PySem.StrLaws.join_length_le ⟨#[c]⟩ ts
    have e : (⟨#[c]⟩ : Str).length = 1 := rfl
    rw [e, Nat.mul_one] at this
    exact this
  · intro d hd
    rcases join_mem c ts d hd with e | ⟨p, hp, e⟩
    · rw [e]; exact hc
    · exact h p hp d e
theorem jl_join (c : Nat) : ∀ (A : List Str), A ≠ [] → (Str.join ⟨#[c]⟩ A).length + 1 = jl A
  | [], h => absurd rfl h
  | [a], _ => by rw [join_one, jl_cons, jl_nil]
  | a :: b :: r, _ => by
    have := jl_join c (b :: r) (by simp)
    rw [ls_len] at this ⊢
    have e := jl_cons a (b :: r)
    rw [ls_len] at e
    rw [ls_two, List.length_append, List.length_cons]; lia
theorem jl_split (x : Str) (c : Nat) : jl (Txt.split x ⟨#[c]⟩) = x.length + 1 := by
  rw [← jl_join c _ (split_ne _ _), PySem.StrLaws.join_split]
theorem jl_cut (A : List Str) (p : Nat) : jl (A.take p) + jl (A.drop (p + 1)) ≤ jl A := by
  have e := congrArg jl (List.take_append_drop p A)
  rw [jl_app] at e
  have h : jl (A.drop (p + 1)) ≤ jl (A.drop p) := by
    rw [← List.drop_drop]
    cases A.drop p with
    | nil => exact Nat.le_refl _
    | cons a r => rw [List.drop_succ_cons, List.drop_zero, jl_cons]; lia
  lia
noncomputable def spWord : Sp := fun vs H Q _ => ∃ p, vs = [.ref p] ∧ Pen3 H p ∧ ∀ y H', Tb 90 y → Pen3 H' p → Same (rm p H) H' → Q (.str y) H'
noncomputable def spLt : Sp := fun vs H Q _ => ∃ (p : Addr) (m : Int), vs = [.ref p, .int m] ∧ Pen3 H p ∧ 0 ≤ m ∧ m ≤ 61 ∧ ∀ y H', Tb 12000 y → Pen3 H' p → Same (rm p H) H' → Q (.str y) H'
section
variable {P : Program} {w : World} {K : PySem.W.Frag} {mg : Str → Option Value} {base : Heap}
theorem ok_word {f : Addr} (F : Fd K mg "_law_word" s_law_word f) (T : Tx K mg) (C_law_draw : Cal P w K mg base CX0 1 "_law_draw" spDraw) : Cal P w K mg base CX0 2 "_law_word" spWord := by
  refine F.cal sc_law_word (fun _ _ _ _ _ _ us hl => L3.bind1 (fun _ => rfl) us hl) (fun vs H Q E h => ?_) (fun cdv A outer s H vs Q E hr h => ?_)
  · obtain ⟨p, rfl, _⟩ := h; rfl
  · obtain ⟨p, rfl, hp, q⟩ := h
    refine ⟨_, (bcons (sset (i := 1) sc_law_word.nd rfl (by first | exact Or.inl rfl | exact Or.inr rfl) (qlst (qcons qstr (qcons qstr (qcons qstr (qcons qstr (qcons qstr (qcons qstr (qcons qstr (qcons qstr (qcons qstr (qcons qstr (qcons qstr (qcons qstr (qcons qstr (qcons qstr qnil))))))))))))))))
      (bcons (sset (i := 1) sc_law_word.nd rfl (by first | exact Or.inl rfl | exact Or.inr rfl) (qop rAdd (qv 1) (qlst (qcons qstr (qcons qstr (qcons qstr (qcons qstr (qcons qstr (qcons qstr (qcons qstr (qcons qstr (qcons qstr (qcons qstr (qcons qstr (qcons qstr (qcons qstr (qcons qstr (qcons qstr (qcons qstr (qcons qstr qnil))))))))))))))))))))
      (bcons (sset (i := 1) sc_law_word.nd rfl (by first | exact Or.inl rfl | exact Or.inr rfl) (qop rAdd (qv 1) (qlst (qcons (qop rMulS qstr qint) (qcons (qop rMulS qstr qint) (qcons (qop rAdd qstr (qop rMulS qstr qint)) (qcons (qop rAdd qstr (qop rMulS qstr qint)) (qcons qstr (qcons qstr (qcons (qop rMulS qstr qint) (qcons qstr qnil)))))))))))
      (bone (sret (qix (xIx K) (qv 1) (qF C_law_draw (hr.mono (by lia)) pass0 rfl (qcons (qv 0) (qcons (qB (fLen K) rfl T.b_len bt_len (qcons (qv 1) qnil)) qnil))) (fun _ _ => rfl))))))), ?_⟩
    refine ⟨(show 14 ≤ sizeLine by decide), fun l1 H1 n1 s1 e1 _ => ?_⟩
    refine ⟨_, rfl, (show 17 ≤ sizeLine by decide), fun l2 H2 n2 s2 e2 _ => ?_⟩
    refine ⟨_, _, s2 _ _ e1, e2, big (by decide), fun l3 H3 n3 s3 e3 _ => ?_⟩
    refine ⟨_, rfl, 57, 60, congrArg V.str (by decide), rfl, by decide, by decide, 57, 61, congrArg V.str (by decide), rfl, by decide, by decide, 49, 60, congrArg V.str (by decide), rfl, by decide, by decide, big (by decide), 49, 61, congrArg V.str (by decide), rfl, by decide, by decide, big (by decide), 40, 90, congrArg V.str (by decide), rfl, by decide, by decide, (show 8 ≤ sizeLine by decide), fun l4 H4 n4 s4 e4 _ => ?_⟩
    refine ⟨_, _, s4 _ _ e3, e4, big (by decide), fun l5 H5 n5 s5 e5 _ => ?_⟩
    have s04 := s1.trans (s2.trans (s3.trans s4))
    have p4 := hp.mono s04
    have hl5 : l5 ≠ p := p4.ne n5
    refine ⟨_, rfl, _, rfl, _, rfl, l5, _, rfl, .inl (SqL.of e5), p, _, rfl, p4.mono s5, (show (0 : Int) < 39 by decide), (show (39 : Int) < 10 ^ 100 by decide +kernel), fun r H6 r0 r1 p6 s6 => ?_⟩
    obtain ⟨v, hv, hm⟩ := atI_mem r0 r1
    obtain ⟨y, rfl, hy⟩ := tbV_of (n := 90) (List.all_eq_true.mp (by decide +kernel) v hm)
    exact ⟨l5, _, r, .str y, rfl, rfl, .inl (SqL.of (rm_look s6 e5 hl5)), hv, q y H6 hy p6 ((rm_of' (s04.trans s5)).trans s6)⟩
end
end K48
namespace K48
open PySem L2 L3 PySem.NumText
section
variable {P : Program} {w : World} {K : PySem.W.Frag} {mg : Str → Option Value} {base : Heap}
theorem ok_lt {f : Addr} (F : Fd K mg "_law_layout_text" s_law_layout_text f) (T : Tx K mg) (C_law_draw : Cal P w K mg base CX0 1 "_law_draw" spDraw) : Cal P w K mg base CX0 2 "_law_layout_text" spLt := by
  refine F.cal sc_law_layout_text (fun _ _ _ _ _ _ us hl => L3.bind2 (fun _ _ => rfl) us hl) (fun vs H Q E h => ?_) (fun cdv A outer s H vs Q E hr h => ?_)
  · obtain ⟨p, m, rfl, _⟩ := h; rfl
  · obtain ⟨p, m, rfl, hp, m0, m1, q⟩ := h
    refine ⟨_, (bcons (sset (i := 2) sc_law_layout_text.nd rfl (by first | exact Or.inl rfl | exact Or.inr rfl) (qlst qnil))
      (bcons (sfor PassesOwn.never rfl (irange1 rfl T.b_range (qcons (qv 1) qnil)) (gname (i := 3) sc_law_layout_text.nd rfl (by first | exact Or.inl rfl | exact Or.inr rfl))
        (bone (sexpr (qBm K PySem.F.plainAttrs_list PySem.F.slot_list_append PySem.F.type_list_append mAppend (qv 2) (qcons (qBm K PySem.F.plainAttrs_str PySem.F.slot_str_join PySem.F.type_str_join (mJoin K) qstr (qcons (qcomp (sc := defScope s_law_layout_text) (NX := ["_law_pen_here", "_law_many", "_law_pages", "_law_k"]) ["_law_j", "_law_pen_here"] [none, some 0] rfl (irange1 rfl T.b_range (qcons (qF C_law_draw (hr.mono (by lia)) pass0 rfl (qcons (qv 0) (qcons qint qnil))) qnil)) (fun _ _ _ => (gname (i := 0) (show (["_law_j", "_law_pen_here"] : List Str).Nodup by decide +kernel) rfl (by first | exact Or.inl rfl | exact Or.inr rfl))) (fun _ _ _ => csnil) (fun _ _ _ => (qTy fStr rfl T.b_str bt_str (qcons (qop rSub (qF C_law_draw (hr.mono (by lia)) pass0 rfl (qcons (qv 1) (qcons qint qnil))) qint) qnil))) rfl rfl (by decide +kernel)) qnil)) qnil)))))
      (bone (sret (qBm K PySem.F.plainAttrs_str PySem.F.slot_str_join PySem.F.type_str_join (mJoin K) qstr (qcons (qv 2) qnil)))))), ?_⟩
    refine ⟨(show 0 ≤ sizeLine by decide), fun la H1 n1 s1 e1 _ => ?_⟩
    have hlp : la ≠ p := hp.ne n1
    have nla : rm p H la = none := by rw [rm_ne hlp]; exact n1
    refine ⟨_, rfl, m, rfl, by lia, by lia, for_range (n := m.toNat) (fun i σ G => ∃ (z3 : Option V) (A : List Str), σ = [some (.ref p), some (.int m), some (.ref la), z3] ∧ Pen3 G p ∧ G la = some (.lst (A.map V.str)) ∧ A.length = i ∧ (∀ y ∈ A, Tb 190 y) ∧ Same (rm p H) G)
      ⟨none, [], rfl, hp.mono s1, e1, rfl, (fun y hy => nomatch hy), rm_same.trans s1⟩ ?_ ?_⟩
    · rintro i σ G hi ⟨z3, A, rfl, pG, aG, hAl, hA, sG⟩
      refine ⟨_, rfl, .inl ⟨rfl, _, SqL.of aG⟩, rfl, _, rfl, p, 4, rfl, pG, by decide, by decide +kernel, fun d G1 d0 d1 p1 s1 => ?_⟩
      refine ⟨d, rfl, by lia, by lia, fun ac hac => ?_⟩
      have hacp : ac ≠ p := p1.ne hac
      have aG1 := rm_look s1 aG hlp
      have hacl : ac ≠ la := fun z => by rw [z, aG1] at hac; cases hac
      refine comp_range (n := d.toNat) (fun j ys σ G' => ∃ (z : Option V) (ks : List Str), σ = [z, some (.ref p)] ∧ Pen3 G' p ∧ Same (rm p G1) G' ∧ G' ac = some (.lst ys) ∧ ys = ks.map V.str ∧ ks.length = j ∧ ∀ k ∈ ks, Tb 61 k) ⟨none, [], rfl, ?_, rm_same.trans (same_new hac), upd_same, rfl, rfl, fun k hk => nomatch hk⟩ ?_ ?_
      · obtain ⟨m1, m2, m3, hp3⟩ := p1
        exact ⟨m1, m2, m3, by rw [upd_ne hacp.symm]; exact hp3⟩
      · rintro j ys σ G' hj ⟨z, ks, rfl, pG', sG', aG', rfl, hkl, hkb⟩
        refine ⟨_, rfl, p, 201, rfl, pG', by decide, by decide +kernel, fun n G4 n0 n1 pG4 sG4 => ?_⟩
        have hbd : Bd (n - 100) := by
          have h1 : (n - 100).natAbs < 1000 := by lia
          exact Nat.lt_of_lt_of_le h1 (by decide +kernel)
        refine ⟨_, _, rfl, rfl, n - 100, rfl, num_log hbd, ?_⟩
        have aG4 := rm_look sG4 aG' hacp
        refine cpost aG4 (sizeBig (by rw [List.length_map]; lia)) hj ?_
        obtain ⟨m1, m2, m3, hp4⟩ := id pG4
        have hacn : rm p G1 ac = none := by rw [rm_ne hacp]; exact hac
        refine ⟨_, ks ++ [num (n - 100)], rfl, ⟨m1, m2, m3, by rw [upd_ne hacp.symm]; exact hp4⟩, same_upd (rm_trans sG' sG4) hacn, upd_same, by rw [List.map_append]; rfl, by rw [List.length_append, hkl]; rfl, fun k hk => ?_⟩
        rcases List.mem_append.mp hk with hk | hk
        · exact hkb k hk
        · rw [List.mem_singleton] at hk; rw [hk]; exact Tb.num hbd
      · rintro ys σ G' ⟨z, ks, rfl, pG', sG', aG', rfl, hkl, hkb⟩
        have hjl : jl ks ≤ 190 := by
          have h1 := jl_le (B := 61) ks fun y hy => (hkb y hy).1
          have h2 : ks.length ≤ 3 := by lia
          have h3 : ks.length * 62 ≤ 3 * 62 := Nat.mul_le_mul_right _ h2
          lia
        refine ⟨_, ac, ks, rfl, rfl, SqL.of aG', ?_, ?_⟩
        · rw [c_sp]; exact jl_ok (by lia)
        rw [c_sp]
        have aG2 := rm_look sG' aG1 hlp
        refine ⟨la, _, _, rfl, rfl, aG2, sizeBig (by rw [List.length_map]; lia), ?_⟩
        obtain ⟨m1, m2, m3, hp4⟩ := id pG'
        refine ⟨_, A ++ [Str.join ⟨#[32]⟩ ks], rfl, ⟨m1, m2, m3, by rw [upd_ne hlp.symm]; exact hp4⟩, by rw [upd_same, List.map_append]; rfl, by rw [List.length_append, hAl]; rfl, fun y hy => ?_, same_upd (rm_trans (rm_trans sG s1) sG') nla⟩
        rcases List.mem_append.mp hy with hy | hy
        · exact hA y hy
        · rw [List.mem_singleton] at hy; rw [hy]; exact (jl_tb (by decide) fun y hy => (hkb y hy).2).le hjl
    · rintro σ G ⟨z3, A, rfl, pG, aG, hAl, hA, sG⟩
      have hjl : jl A ≤ 12000 := by
        have h1 := jl_le (B := 190) A fun y hy => (hA y hy).1
        have h2 : A.length ≤ 61 := by lia
        have h3 : A.length * 191 ≤ 61 * 191 := Nat.mul_le_mul_right _ h2
        lia
      refine ⟨rfl, _, rfl, _, la, A, rfl, rfl, SqL.of aG, ?_, ?_⟩
      · rw [c_bar]; exact jl_ok (by lia)
      rw [c_bar]
      exact q _ G ((jl_tb (by decide) fun y hy => (hA y hy).2).le hjl) pG sG
end
end K48
namespace K48
open PySem L2 L3 PySem.NumText
noncomputable def tV : Option Int → V
  | none => .str ⟨#[41]⟩
  | some n => .int n
noncomputable def tW : Option Int → Nat
  | none => 1
  | some n => 4 * n.toNat + 1
noncomputable def tWs (ws : List (Option Int)) : Nat := (ws.map tW).sum
theorem tWs_cons (x : Option Int) (ws : List (Option Int)) : tWs (x :: ws) = tW x + tWs ws := by unfold tWs; rw [List.map_cons, List.sum_cons]
theorem tWs_len : ∀ ws : List (Option Int), ws.length ≤ tWs ws
  | [] => Nat.zero_le _
  | x :: ws => by
    have := tWs_len ws
    have h : 1 ≤ tW x := by cases x <;> simp [tW]
    rw [tWs_cons, List.length_cons]; lia
theorem tW_pos (x : Option Int) : 0 < tW x := by cases x <;> exact Nat.succ_pos _
theorem tt_a {key : Int} {x : Option Int} {m : Nat} (h : key + 5 * ((tW x + m : Nat) : Int) ≤ 2300) : key + 5 * (m : Int) ≤ 2295 := by
  have := tW_pos x; lia
theorem tt_b {l m : Nat} {x : Option Int} (h : l + 64 * (tW x + m) ≤ 15700) : l + 64 + 64 * m ≤ 15700 := by
  have := tW_pos x; lia
theorem tt_c {a l m : Nat} (h : a ≤ l) (hB : l + 64 + 64 * m ≤ 15700) : a + 1 ≤ 200000 := by lia
theorem tt_d {l m : Nat} (hB : l + 64 + 64 * m ≤ 15700) : m ≤ 245 := by lia
theorem tt_e {l m : Nat} (hB : l + 64 + 64 * m ≤ 15700) : l + 1 + 64 * m ≤ 15700 ∧ l + 1 + 61 + 1 + 64 * m ≤ 15700 := by lia
theorem tt_f {key d : Int} {m : Nat} (h0 : -1000 ≤ key) (hA : key + 5 * (m : Int) ≤ 2295) (d0 : 0 ≤ d) (d1 : d < 5) : Bd (key + 1 + d) ∧ -1000 ≤ key + 1 + d ∧ key + 1 + d + 5 * (m : Int) ≤ 2300 := by
  refine ⟨Nat.lt_of_lt_of_le (show (key + 1 + d).natAbs < 10000 by lia) (by decide +kernel), by lia, by lia⟩
theorem tt_g {n a : Int} (h0 : 0 ≤ a) (h1 : a < n) (hn : n ≤ 61) : (-1 ≤ a ∧ a ≤ 61) ∧ (-1 ≤ n - 1 - a ∧ n - 1 - a ≤ 61) := by lia
theorem tt_h {n a : Int} {m : Nat} (h0 : 0 ≤ a) (h1 : a < n) : 4 * a.toNat + 1 + (1 + (4 * (n - 1 - a).toNat + 1 + (1 + m))) = 4 * n.toNat + m := by lia
theorem tt_i {n key : Int} {l m : Nat} (hk : key + 5 * ((4 * n.toNat + 1 + m : Nat) : Int) ≤ 2300) (hl : l + 64 * (4 * n.toNat + 1 + m) ≤ 15700) : 4 * n.toNat + m < 4 * n.toNat + 1 + m ∧ key + 5 * ((4 * n.toNat + m : Nat) : Int) ≤ 2300 ∧ l + 1 + 64 * (4 * n.toNat + m) ≤ 15700 := by lia
theorem tt_j {l m : Nat} (h : l + 1 + 61 + 1 + 64 * m ≤ 15700) : l + 1 + 61 ≤ sizeLine ∧ l + 1 + 61 + 1 ≤ sizeLine := ⟨big (by lia), big (by lia)⟩
noncomputable def spTt : Sp := fun vs H Q _ => ∃ (p : Addr) (m : Int), vs = [.ref p, .int m] ∧ Pen3 H p ∧ 0 ≤ m ∧ m ≤ 61 ∧ ∀ y H', Tb 16000 y → Pen3 H' p → Same (rm p H) H' → Q (.str y) H'
theorem pop_at {ws : List (Option Int)} {x : Option Int} : (((x :: ws).map tV).reverse)[(((x :: ws).map tV).reverse).length - 1]? = some (tV x) ∧ (((x :: ws).map tV).reverse).dropLast = (ws.map tV).reverse := by
  rw [List.map_cons, List.reverse_cons]
  constructor
  · rw [List.length_append, List.length_singleton, Nat.add_sub_cancel, List.getElem?_append_right (Nat.le_refl _), Nat.sub_self]; rfl
  · rw [List.dropLast_concat]
theorem push4 (ws : List (Option Int)) (a b : Int) : (ws.map tV).reverse ++ [.str ⟨#[41]⟩, .int a, .int (-1), .int b] = ((some b :: some (-1) :: some a :: none :: ws).map tV).reverse := by
  simp [tV]
inductive TtI (H : Hp) (p lh : Addr) (m form : Int) (mm : Nat) (σ : L2.St) (G : Hp) : Prop
  | mk (key : Int) (txt : Str) (z6 z7 : Option V) (ws : List (Option Int)) (l : Nat) (e : σ = [some (.ref p), some (.int m), some (.int key), some (.int form), some (.str txt), some (.ref lh), z6, z7]) (pG : Pen3 G p) (eG : G lh = some (.lst (ws.map tV).reverse)) (em : mm = tWs ws) (hws : ∀ n, some n ∈ ws → -1 ≤ n ∧ n ≤ 61) (hk0 : -1000 ≤ key) (hk1 : key + 5 * (mm : Int) ≤ 2300) (hT : Tb l txt) (hTl : l + 64 * mm ≤ 15700) (sG : Same (rm p H) G) : TtI H p lh m form mm σ G
section
variable {P : Program} {w : World} {K : PySem.W.Frag} {mg : Str → Option Value} {base : Heap}
theorem ok_tt {f : Addr} (F : Fd K mg "_law_tree_text" s_law_tree_text f) (T : Tx K mg) (C_law_draw : Cal P w K mg base CX0 1 "_law_draw" spDraw) : Cal P w K mg base CX0 2 "_law_tree_text" spTt := by
  refine F.cal sc_law_tree_text (fun _ _ _ _ _ _ us hl => L3.bind2 (fun _ _ => rfl) us hl) (fun vs H Q E h => ?_) (fun cdv A outer s H vs Q E hr h => ?_)
  · obtain ⟨p, m, rfl, _⟩ := h; rfl
  · obtain ⟨p, m, rfl, hp, m0, m1, q⟩ := h
    refine ⟨_, (bcons (sset (i := 2) sc_law_tree_text.nd rfl (by first | exact Or.inl rfl | exact Or.inr rfl) (qop rSub (qF C_law_draw (hr.mono (by lia)) pass0 rfl (qcons (qv 0) (qcons qint qnil))) qint))
      (bcons (sset (i := 3) sc_law_tree_text.nd rfl (by first | exact Or.inl rfl | exact Or.inr rfl) (qF C_law_draw (hr.mono (by lia)) pass0 rfl (qcons (qv 0) (qcons qint qnil))))
      (bcons (sset (i := 4) sc_law_tree_text.nd rfl (by first | exact Or.inl rfl | exact Or.inr rfl) qstr)
      (bcons (sset (i := 5) sc_law_tree_text.nd rfl (by first | exact Or.inl rfl | exact Or.inr rfl) (qlst (qcons (qv 1) qnil)))
      (bcons (swhile PassesOwn.never (tcmp (rNeNil hr) (qv 5) (qlst qnil) (nomark _))
        (bcons (sset (i := 6) sc_law_tree_text.nd rfl (by first | exact Or.inl rfl | exact Or.inr rfl) (qBm0 K PySem.F.plainAttrs_list PySem.F.slot_list_pop PySem.F.type_list_pop mPop (qv 5)))
        (bone (sif (ttru K (qB (fIsi K) rfl T.b_isinstance bt_isinstance (qcons (qv 6) (qcons (qty rfl T.b_str bt_str) qnil))) (fun _ => rfl)) (bone (sset (i := 4) sc_law_tree_text.nd rfl (by first | exact Or.inl rfl | exact Or.inr rfl) (qop rAdd (qv 4) (qv 6)))) (bone (sif (tcmp (rEqq hr) (qv 6) qint (nomark _)) (bone (sset (i := 4) sc_law_tree_text.nd rfl (by first | exact Or.inl rfl | exact Or.inr rfl) (qop rAdd (qv 4) qstr))) (bone (sif (tcmp rLt (qv 6) qint (nomark _)) (bcons (sset (i := 2) sc_law_tree_text.nd rfl (by first | exact Or.inl rfl | exact Or.inr rfl) (qop rAdd (qop rAdd (qv 2) qint) (qF C_law_draw (hr.mono (by lia)) pass0 rfl (qcons (qv 0) (qcons qint qnil)))))
              (bone (sset (i := 4) sc_law_tree_text.nd rfl (by first | exact Or.inl rfl | exact Or.inr rfl) (qop rAdd (qop rAdd (qop rAdd (qv 4) qstr) (qTy fStr rfl T.b_str bt_str (qcons (qv 2) qnil))) qstr)))) (bcons (sset (i := 7) sc_law_tree_text.nd rfl (by first | exact Or.inl rfl | exact Or.inr rfl) (qix (xIx K) (qlst (qcons qint (qcons (qop rSub (qv 6) qint) (qcons (qop rDivB (qv 6) qint) (qcons qint (qcons qint qnil)))))) (qv 3) (fun _ _ => rfl)))
              (bcons (sif (tcmp rGt (qv 3) qint (nomark _)) (bone (sset (i := 7) sc_law_tree_text.nd rfl (by first | exact Or.inl rfl | exact Or.inr rfl) (qF C_law_draw (hr.mono (by lia)) pass0 rfl (qcons (qv 0) (qcons (qv 6) qnil))))) bnil)
              (bcons (sset (i := 4) sc_law_tree_text.nd rfl (by first | exact Or.inl rfl | exact Or.inr rfl) (qop rAdd (qv 4) qstr))
              (bone (sexpr (qBm K PySem.F.plainAttrs_list PySem.F.slot_list_extend PySem.F.type_list_extend mExtend (qv 5) (qcons (qlst (qcons qstr (qcons (qop rSub (qop rSub (qv 6) qint) (qv 7)) (qcons (qun rNeg qint) (qcons (qv 7) qnil))))) qnil)))))))))))))))
      (bone (sret (qv 4)))))))), ?_⟩
    refine ⟨_, rfl, p, 2001, rfl, hp, by decide, by decide +kernel, fun k0 H1 k00 k01 p1 s1 => ?_⟩
    refine ⟨_, _, rfl, rfl, ?_⟩
    refine ⟨_, rfl, p, 5, rfl, p1, by decide, by decide +kernel, fun form H2 f0 f1 p2 s2 => ?_⟩
    refine ⟨_, rfl, (show 1 ≤ sizeLine by decide), fun lh H3 n3 s3 e3 _ => ?_⟩
    have hlp : lh ≠ p := p2.ne n3
    have s02 := rm_trans s1 s2
    have nlh : rm p H lh = none := s02.free n3
    have e3' : H3 lh = some (.lst (([some m].map tV).reverse)) := e3
    refine ⟨TtI H p lh m form,
      ⟨tWs [some m], k0 - 1000, _, none, none, [some m], 0, rfl, p2.mono s3, e3', rfl, ?_, by lia, ?_, ?_, ?_, s02.trans s3⟩, ?_⟩
    · intro n hn
      simp only [List.mem_cons, List.not_mem_nil, or_false, Option.some.injEq] at hn
      subst hn; lia
    · have : tWs [some m] = 4 * m.toNat + 1 := by rw [tWs_cons]; rfl
      lia
    · exact ⟨Nat.le_refl _, fun c hc => nomatch hc⟩
    · have : tWs [some m] = 4 * m.toNat + 1 := by rw [tWs_cons]; rfl
      lia
    · rintro mm σ G ⟨key, txt, z6, z7, ws, l, rfl, pG, eG, rfl, hws, hk0, hk1, hT, hTl, sG⟩
      refine ⟨_, rfl, (show 0 ≤ sizeLine by decide), fun ke G1 n4 s4 e4 _ => ?_⟩
      refine ⟨lh, ke, _, rfl, rfl, s4 _ _ eG, e4, _, rfl, ?_⟩
      have eG1 := s4 _ _ eG
      have pG1 := pG.mono s4
      have sG1 := sG.trans s4
      cases ws with
      | nil =>
        refine iteF ?_
        refine ⟨_, rfl, ?_⟩
        exact q txt G1 (hT.le (by lia)) pG1 sG1
      | cons x ws =>
        rw [show (!(((x :: ws).map tV).reverse).isEmpty) = true by rw [List.map_cons, List.reverse_cons]; simp]
        refine iteT ?_
        refine ⟨fun σ' G' => ∃ m', m' < tWs (x :: ws) ∧ TtI H p lh m form m' σ' G', fun σ' G' h => h, ?_⟩
        rw [tWs_cons] at hk1 hTl ⊢
        have hlen := tWs_len ws
        have hA : key + 5 * (tWs ws : Int) ≤ 2295 := tt_a hk1
        have hB : l + 64 + 64 * tWs ws ≤ 15700 := tt_b hTl
        have hC : txt.length + 1 ≤ sizeLine := big (tt_c hT.1 hB)
        have hW : tWs ws ≤ 245 := tt_d hB
        have hlt : tWs ws < tW x + tWs ws := Nat.lt_add_of_pos_left (tW_pos x)
        obtain ⟨hp1, hp2⟩ := pop_at (ws := ws) (x := x)
        refine ⟨_, rfl, .inl ⟨rfl, _, SqL.of eG1⟩, lh, _, _, rfl, rfl, eG1, hp1, ?_⟩
        rw [hp2]
        have hws' : ∀ n, some n ∈ ws → -1 ≤ n ∧ n ≤ 61 := fun n hn => hws n (List.mem_cons_of_mem _ hn)
        have pG2 : Pen3 (upd G1 lh (.lst (ws.map tV).reverse)) p := by
          obtain ⟨a, b, c, e⟩ := pG1
          exact ⟨a, b, c, by rw [upd_ne hlp.symm]; exact e⟩
        have sG2 : Same (rm p H) (upd G1 lh (.lst (ws.map tV).reverse)) := same_upd sG1 nlh
        have eG2 : upd G1 lh (.lst (ws.map tV).reverse) lh = some (.lst (ws.map tV).reverse) := upd_same
        generalize upd G1 lh (.lst (ws.map tV).reverse) = G2 at pG2 sG2 eG2
        cases x with
        | none =>
          refine ⟨_, rfl, .str ⟨#[41]⟩, _, _, _, rfl, (Rep.str _ : Rep G2 _ _).ty, kit_str K (D.str _), _, rfl, ?_⟩
          refine iteT ?_
          refine ⟨_, rfl, _, rfl, hC, ?_⟩
          exact ⟨tWs ws, hlt, key, _, _, _, ws, l + 1, rfl, pG2, eG2, rfl, hws', hk0, Int.le_trans hA (by decide), hT.app ⟨Nat.le_refl _, by decide⟩, (tt_e hB).1, sG2⟩
        | some n =>
          have hn := hws n (List.mem_cons_self ..)
          refine ⟨_, rfl, .int n, _, _, _, rfl, (Rep.int n : Rep G2 _ _).ty, kit_str K (D.int n), _, rfl, ?_⟩
          refine iteF ?_
          refine ⟨_, rfl, _, rfl, ?_⟩
          by_cases h0 : n = 0
          · rw [decide_eq_true h0]
            refine iteT ?_
            refine ⟨_, rfl, hC, ?_⟩
            exact ⟨tWs ws, hlt, key, _, _, _, ws, l + 1, rfl, pG2, eG2, rfl, hws', hk0, Int.le_trans hA (by decide), hT.app ⟨Nat.le_refl _, by decide⟩, (tt_e hB).1, sG2⟩
          rw [decide_eq_false h0]
          refine iteF ?_
          refine ⟨_, rfl, _, _, rfl, rfl, _, rfl, ?_⟩
          by_cases hneg : n < 0
          · rw [decide_eq_true hneg]
            refine iteT ?_
            refine ⟨_, rfl, _, rfl, p, 5, rfl, pG2, by decide, by decide +kernel, fun d G3 d0 d1 p3 s3 => ?_⟩
            have hF := tt_f hk0 hA d0 d1
            refine ⟨_, rfl, hC, ?_⟩
            refine ⟨_, rfl, key + 1 + d, rfl, num_log hF.1, ?_⟩
            have hT1 : Tb (l + 1) (txt ++ " ") := hT.app ⟨Nat.le_refl _, by decide⟩
            have hT2 := hT1.app (Tb.num hF.1)
            have hT3 := hT2.app (m := 1) (y := " ") ⟨Nat.le_refl _, by decide⟩
            have hl3 := tt_j (tt_e hB).2
            refine ⟨Nat.le_trans (Nat.add_le_add hT1.1 (Tb.num hF.1).1) hl3.1, Nat.le_trans (Nat.add_le_add hT2.1 (Nat.le_refl 1)) hl3.2, ?_⟩
            exact ⟨tWs ws, hlt, key + 1 + d, _, _, _, ws, l + 1 + 61 + 1, rfl, p3, rm_look s3 eG2 hlp, rfl, hws', hF.2.1, hF.2.2, hT3, (tt_e hB).2, rm_trans sG2 s3⟩
          rw [decide_eq_false hneg]
          refine iteF ?_
          refine ⟨_, rfl, _, _, rfl, rfl, _, rfl, _, _, rfl, rfl, ⟨by decide, by decide +kernel⟩, (show 5 ≤ sizeLine by decide), fun ld G3 n5 s5 e5 _ => ?_⟩
          obtain ⟨lv, hlv, hl0, hl1⟩ : ∃ lv : Int, atI [V.int 0, .int (n - 1), .int (n / 2), .int 0, .int 0] form = some (.int lv) ∧ 0 ≤ lv ∧ lv < n := by
            have : form = 0 ∨ form = 1 ∨ form = 2 ∨ form = 3 ∨ form = 4 := by lia
            rcases this with e | e | e | e | e <;> subst e
            · exact ⟨0, rfl, by lia, by lia⟩
            · exact ⟨n - 1, rfl, by lia, by lia⟩
            · exact ⟨n / 2, rfl, by lia, by lia⟩
            · exact ⟨0, rfl, by lia, by lia⟩
            · exact ⟨0, rfl, by lia, by lia⟩
          refine ⟨_, rfl, ld, _, form, .int lv, rfl, rfl, .inl (SqL.of e5), hlv, ?_⟩
          have pG3 := pG2.mono s5
          have eG3 := s5 _ _ eG2
          have sG3 := sG2.trans s5
          apply join (fun σ' G' => ∃ lv : Int, σ' = [some (.ref p), some (.int m), some (.int key), some (.int form), some (.str txt), some (.ref lh), some (.int n), some (.int lv)] ∧ 0 ≤ lv ∧ lv < n ∧ Pen3 G' p ∧ G' lh = some (.lst (ws.map tV).reverse) ∧ Same (rm p H) G')
          case h2 =>
            intro hj
            refine ⟨_, rfl, _, _, rfl, rfl, _, rfl, ?_⟩
            refine ite2 (fun _ => ?_) (fun _ => ?_)
            · refine ⟨_, rfl, _, rfl, p, n, rfl, pG3, by lia, ?_, fun d G4 d0 d1 p4 s4' => ?_⟩
              · have : (61 : Int) < 10 ^ 100 := by decide +kernel
                lia
              exact hj _ _ ⟨d, rfl, d0, d1, p4, rm_look s4' eG3 hlp, rm_trans sG3 s4'⟩
            · exact hj _ _ ⟨lv, rfl, hl0, hl1, pG3, eG3, sG3⟩
          rintro σ' G4 ⟨lv', rfl, hv0, hv1, pG4, eG4, sG4⟩
          refine ⟨_, rfl, hC, ?_⟩
          refine ⟨_, rfl, .inl ⟨rfl, _, SqL.of eG4⟩, _, rfl, _, _, rfl, rfl, _, rfl, _, _, rfl, rfl, _, rfl, _, rfl, (show 4 ≤ sizeLine by decide), fun le G5 n6 s6 e6 _ => ?_⟩
          have eG5 := s6 _ _ eG4
          refine ⟨lh, le, _, _, rfl, rfl, eG5, e6, big (by show _ + 4 ≤ _; rw [List.length_reverse, List.length_map]; lia), ?_⟩
          have e4 : (ws.map tV).reverse ++ [V.str ")", .int (n - 1 - lv'), .int (-1), .int lv'] = ((some lv' :: some (-1) :: some (n - 1 - lv') :: none :: ws).map tV).reverse := by rw [c_cl]; exact push4 ws _ _
          rw [e4]
          have ewt : tWs (some lv' :: some (-1) :: some (n - 1 - lv') :: none :: ws) = 4 * lv'.toNat + 1 + (1 + (4 * (n - 1 - lv').toNat + 1 + (1 + tWs ws))) := by
            rw [tWs_cons, tWs_cons, tWs_cons, tWs_cons]; rfl
          have hI := tt_i (n := n) (m := tWs ws) hk1 hTl
          rw [tt_h hv0 hv1] at ewt
          refine ⟨tWs (some lv' :: some (-1) :: some (n - 1 - lv') :: none :: ws), by rw [ewt]; exact hI.1, key, _, _, _, _, l + 1, rfl, ?_, upd_same, rfl, fun k hk => ?_, hk0, by rw [ewt]; exact hI.2.1, hT.app ⟨Nat.le_refl _, by decide⟩, by rw [ewt]; exact hI.2.2, same_upd (sG4.trans s6) nlh⟩
          · obtain ⟨a, b, c, e⟩ := pG4.mono s6
            exact ⟨a, b, c, by rw [upd_ne hlp.symm]; exact e⟩
          · simp only [List.mem_cons, Option.some.injEq, reduceCtorEq, false_or] at hk
            have hg := tt_g hv0 hv1 hn.2
            rcases hk with rfl | rfl | rfl | hk
            · exact hg.1
            · exact ⟨by decide, by decide⟩
            · exact hg.2
            · exact hws' k hk
end
end K48
namespace K48
open PySem L2 L3 PySem.NumText
theorem clip_lo {i : Int} (h : 0 ≤ i) (u : Option Int) (len : Nat) : Builtin.Str.strSliceIndices (some i) u 1 len = Builtin.Str.strSliceIndices (some (min i len)) u 1 len := by
  have a : ¬ i < 0 := by lia
  have b : ¬ min i (len : Int) < 0 := by lia
  have e : min (min i (len : Int)) len = min i len := by lia
  simp [Builtin.Str.strSliceIndices, a, b, e]
theorem clip_hi {j : Int} (h : 0 ≤ j) (l : Option Int) (len : Nat) : Builtin.Str.strSliceIndices l (some j) 1 len = Builtin.Str.strSliceIndices l (some (min j len)) 1 len := by
  have a : ¬ j < 0 := by lia
  have b : ¬ min j (len : Int) < 0 := by lia
  have e : min (min j (len : Int)) len = min j len := by lia
  simp [Builtin.Str.strSliceIndices, a, b, e]
theorem sl_tb {n : Nat} {x : Str} (h : Tb n x) {i j : Int} (h0 : 0 ≤ i) (h1 : 0 ≤ j) (hij : min i x.length ≤ min j x.length) : Tb (min j x.length - min i x.length).toNat (PySem.StrLaws.sliceText x (some i) (some j)) := by
  have e : PySem.StrLaws.sliceText x (some i) (some j) = PySem.StrLaws.sliceText x (some (min i x.length)) (some (min j x.length)) := by
    unfold PySem.StrLaws.sliceText
    rw [clip_lo h0, clip_hi h1]
  rw [e, PySem.StrLaws.sliceText_plain ⟨by lia, hij, by show _ ≤ ((ls x).length : Int); rw [← ls_len]; lia⟩]
  constructor
  · show (List.take _ _).toArray.size ≤ _
    rw [List.size_toArray, List.length_take]; lia
  · intro c hc
    refine h.2 c ?_
    have : c ∈ List.take (min j (x.length : Int) - min i (x.length : Int)).toNat ((ls x).drop (min i (x.length : Int)).toNat) := by simpa using hc
    exact List.mem_of_mem_drop (List.mem_of_mem_take this)
theorem sl_mid {n : Nat} {x : Str} (h : Tb n x) {i j : Int} (h0 : 0 ≤ i) (hij : i ≤ j) (h1 : j ≤ x.length) : Tb (j - i).toNat (PySem.StrLaws.sliceText x (some i) (some j)) := by
  have a := Int.min_eq_left h1
  have b := Int.min_eq_left (Int.le_trans hij h1)
  have := sl_tb h h0 (Int.le_trans h0 hij) (by rw [a, b]; exact hij)
  rw [a, b] at this; exact this
theorem sl_none (x : Str) (j : Int) : PySem.StrLaws.sliceText x none (some j) = PySem.StrLaws.sliceText x (some 0) (some j) := by unfold PySem.StrLaws.sliceText; rw [PySem.StrLaws.sliceIdx_none_lo]
theorem sl_to {n : Nat} {x : Str} (h : Tb n x) {j : Int} (h1 : 0 ≤ j) (h2 : j ≤ x.length) : Tb j.toNat (PySem.StrLaws.sliceText x none (some j)) := by
  rw [sl_none]
  have := sl_mid h (Int.le_refl 0) h1 h2
  rw [Int.sub_zero] at this; exact this
theorem sl_200 {n : Nat} {x : Str} (h : Tb n x) : Tb 200 (PySem.StrLaws.sliceText x none (some 200)) := by
  rw [sl_none]
  exact (sl_tb h (Int.le_refl 0) (by decide) (by lia)).le (by lia)
theorem sl_from {n : Nat} {x : Str} (h : Tb n x) {i j : Int} (h0 : 0 ≤ j) (hij : j ≤ i) (h1 : j ≤ x.length) : Tb (x.length - j).toNat (PySem.StrLaws.sliceText x (some i) none) := by
  have e : PySem.StrLaws.sliceText x (some i) none = PySem.StrLaws.sliceText x (some i) (some (x.length : Int)) := by unfold PySem.StrLaws.sliceText; rw [PySem.StrLaws.sliceIdx_none_hi]
  rw [e]
  exact (sl_tb h (Int.le_trans h0 hij) (by lia) (by lia)).le (by lia)
noncomputable def spBent : Sp := fun vs H Q _ => ∃ (p : Addr) (x : Str) (n : Nat), vs = [.ref p, .str x] ∧ Pen3 H p ∧ Tb n x ∧ n ≤ 60000 ∧ ∀ y H', Tb (n + 300) y → Pen3 H' p → Same (rm p H) H' → Q (.str y) H'
theorem join_at {ts : List Str} {k : Nat} : cutV (ts.map V.str) none (some (k : Int)) = (ts.take k).map V.str := by
  unfold cutV
  have h1 : HT.sIx (ts.map V.str).length 0 none = 0 := rfl
  have h2 : HT.sIx (ts.map V.str).length (ts.map V.str).length (some (k : Int)) = min k ts.length := by rw [HT.sIx_nat, List.length_map]
  rw [h1, h2, List.drop_zero, Nat.sub_zero, ← List.map_take]
  congr 1
  rcases Nat.le_total k ts.length with h | h
  · rw [Nat.min_eq_left h]
  · rw [Nat.min_eq_right h, List.take_length, List.take_of_length_le h]
theorem join_fr {ts : List Str} {k : Nat} : cutV (ts.map V.str) (some (k : Int)) none = (ts.drop k).map V.str := by
  unfold cutV
  have h1 : HT.sIx (ts.map V.str).length 0 (some (k : Int)) = min k ts.length := by rw [HT.sIx_nat, List.length_map]
  have h2 : HT.sIx (ts.map V.str).length (ts.map V.str).length none = ts.length := by rw [HT.sIx_none, List.length_map]
  rw [h1, h2, ← List.map_drop, ← List.map_take]
  congr 1
  rcases Nat.le_total k ts.length with h | h
  · rw [Nat.min_eq_left h, List.take_of_length_le (by rw [List.length_drop]; lia)]
  · rw [Nat.min_eq_right h, List.drop_of_length_le h, List.drop_length]; simp
theorem two {i j n : Nat} {y z : Str} (A : Tb i y) (B : Tb j z) (h : i + j ≤ n + 300) (hn : n ≤ 60000) : y.length ≤ sizeLine ∧ z.length ≤ sizeLine ∧ y.length + z.length ≤ sizeLine ∧ Tb (n + 300) (y ++ z) := by
  have a := A.1
  have b := B.1
  exact ⟨big (by lia), big (by lia), big (by lia), (A.app B).le h⟩
theorem three {i j k n : Nat} {y z u : Str} (A : Tb i y) (B : Tb j z) (C : Tb k u) (h : i + j + k ≤ n + 300) (hn : n ≤ 60000) : y.length ≤ sizeLine ∧ z.length ≤ sizeLine ∧ u.length ≤ sizeLine ∧ y.length + z.length ≤ sizeLine ∧ (y ++ z).length + u.length ≤ sizeLine ∧ Tb (n + 300) (y ++ z ++ u) := by
  have a := A.1
  have b := B.1
  have c := C.1
  have ab := (A.app B).1
  exact ⟨big (by lia), big (by lia), big (by lia), big (by lia), big (by lia), ((A.app B).app C).le h⟩
theorem k_two {len : Nat} {a : Int} (h0 : 0 ≤ a) (h1 : a ≤ len) : a.toNat + ((len : Int) - a).toNat = len := by lia
theorem k_mid {len : Nat} {a b : Int} (h0 : 0 ≤ a) (h1 : a ≤ b) (h2 : b ≤ len) : a.toNat + (b - a).toNat + ((len : Int) - b).toNat = len := by lia
theorem k_p {i j c n len : Nat} (h : i + j = len) (hl : len ≤ n) (hc : c ≤ 300) : i + c + j ≤ n + 300 := by lia
theorem k_q {i k j n len : Nat} (h : i + k + j = len) (hl : len ≤ n) : i + j ≤ n + 300 ∧ j + k + i ≤ n + 300 ∧ k + 0 ≤ n + 300 := by lia
theorem lo_hi {a b : Int} {len : Nat} (a0 : 0 ≤ a) (a1 : a < len + 1) (t0 : 0 ≤ b) (t1 : b < len + 1) : 0 ≤ (if b < a then b else a) ∧ (if b < a then b else a) ≤ (if b > a then b else a) ∧ (if b > a then b else a) ≤ (len : Int) := by
  split <;> split <;> lia
theorem jl_in {ts : List Str} {y : Str} {n len : Nat} (k : Nat) (hj : jl ts = len + 1) (hl : len ≤ n) (hy : y.length ≤ 90) : jl (ts.take k ++ [y] ++ ts.drop (k + 1)) ≤ n + 300 := by
  have := jl_cut ts k
  rw [jl_app, jl_app, jl_cons, jl_nil]; lia
section
variable {P : Program} {w : World} {K : PySem.W.Frag} {mg : Str → Option Value} {base : Heap}
theorem ok_bent {f : Addr} (F : Fd K mg "_law_bent" s_law_bent f) (T : Tx K mg) (C_law_draw : Cal P w K mg base CX0 1 "_law_draw" spDraw) (C_law_word : Cal P w K mg base CX0 2 "_law_word" spWord) : Cal P w K mg base CX0 3 "_law_bent" spBent := by
  refine F.cal sc_law_bent (fun _ _ _ _ _ _ us hl => L3.bind2 (fun _ _ => rfl) us hl) (fun vs H Q E h => ?_) (fun cdv A outer s H vs Q E hr h => ?_)
  · obtain ⟨p, x, n, rfl, _⟩ := h; rfl
  · obtain ⟨p, x, n, rfl, hp, hT, hn, q⟩ := h
    have hl := hT.1
    have hcap : ∀ {c : Int}, c ≤ 200000 → c < 10 ^ 100 := fun h => Int.lt_of_le_of_lt h (by decide +kernel)
    refine ⟨_, (bcons (sset (i := 2) sc_law_bent.nd rfl (by first | exact Or.inl rfl | exact Or.inr rfl) (qF C_law_draw (hr.mono (by lia)) pass0 rfl (qcons (qv 0) (qcons qint qnil))))
      (bcons (sset (i := 3) sc_law_bent.nd rfl (by first | exact Or.inl rfl | exact Or.inr rfl) (qF C_law_draw (hr.mono (by lia)) pass0 rfl (qcons (qv 0) (qcons (qop rAdd (qB fLenS rfl T.b_len bt_len (qcons (qv 1) qnil)) qint) qnil))))
      (bcons (sset (i := 4) sc_law_bent.nd rfl (by first | exact Or.inl rfl | exact Or.inr rfl) (qF C_law_draw (hr.mono (by lia)) pass0 rfl (qcons (qv 0) (qcons (qop rAdd (qB fLenS rfl T.b_len bt_len (qcons (qv 1) qnil)) qint) qnil))))
      (bcons (sset (i := 5) sc_law_bent.nd rfl (by first | exact Or.inl rfl | exact Or.inr rfl) (qix xIxS qstr (qF C_law_draw (hr.mono (by lia)) pass0 rfl (qcons (qv 0) (qcons qint qnil))) (fun _ _ => rfl)))
      (bcons (sset (i := 6) sc_law_bent.nd rfl (by first | exact Or.inl rfl | exact Or.inr rfl) (qB fMin2 rfl T.b_min bt_min (qcons (qv 3) (qcons (qv 4) qnil))))
      (bcons (sset (i := 7) sc_law_bent.nd rfl (by first | exact Or.inl rfl | exact Or.inr rfl) (qB fMax2 rfl T.b_max bt_max (qcons (qv 3) (qcons (qv 4) qnil))))
      (bcons (sif (tcmp (rEqq hr) (qv 2) qint (nomark _)) (bone (sret (qop rAdd (qslice xSlS (qv 1) onone (osome (qv 3))) (qslice xSlS (qv 1) (osome (qop rAdd (qv 3) qint)) onone)))) bnil)
      (bcons (sif (tcmp (rEqq hr) (qv 2) qint (nomark _)) (bone (sret (qop rAdd (qop rAdd (qslice xSlS (qv 1) onone (osome (qv 3))) (qv 5)) (qslice xSlS (qv 1) (osome (qv 3)) onone)))) bnil)
      (bcons (sif (tcmp (rEqq hr) (qv 2) qint (nomark _)) (bone (sret (qop rAdd (qop rAdd (qslice xSlS (qv 1) onone (osome (qv 3))) (qv 5)) (qslice xSlS (qv 1) (osome (qop rAdd (qv 3) qint)) onone)))) bnil)
      (bcons (sif (tcmp (rEqq hr) (qv 2) qint (nomark _)) (bone (sret (qop rAdd (qslice xSlS (qv 1) onone (osome (qv 6))) (qslice xSlS (qv 1) (osome (qv 7)) onone)))) bnil)
      (bcons (sif (tcmp (rEqq hr) (qv 2) qint (nomark _)) (bone (sret (qop rAdd (qop rAdd (qslice xSlS (qv 1) onone (osome (qv 7))) (qslice xSlS (qslice xSlS (qv 1) (osome (qv 6)) (osome (qv 7))) onone (osome qint))) (qslice xSlS (qv 1) (osome (qv 7)) onone)))) bnil)
      (bcons (sif (tcmp (rEqq hr) (qv 2) qint (nomark _)) (bone (sret (qop rAdd (qop rAdd (qslice xSlS (qv 1) (osome (qv 7)) onone) (qslice xSlS (qv 1) (osome (qv 6)) (osome (qv 7)))) (qslice xSlS (qv 1) onone (osome (qv 6)))))) bnil)
      (bcons (sset (i := 8) sc_law_bent.nd rfl (by first | exact Or.inl rfl | exact Or.inr rfl) (qBm K PySem.F.plainAttrs_str PySem.F.slot_str_split PySem.F.type_str_split mSplit (qv 1) (qcons qstr qnil)))
      (bcons (sset (i := 9) sc_law_bent.nd rfl (by first | exact Or.inl rfl | exact Or.inr rfl) (qF C_law_draw (hr.mono (by lia)) pass0 rfl (qcons (qv 0) (qcons (qB (fLen K) rfl T.b_len bt_len (qcons (qv 8) qnil)) qnil))))
      (bcons (sif (tcmp (rEqq hr) (qv 2) qint (nomark _)) (bone (sret (qBm K PySem.F.plainAttrs_str PySem.F.slot_str_join PySem.F.type_str_join (mJoin K) qstr (qcons (qop rAdd (qop rAdd (qslice (xSl K) (qv 8) onone (osome (qv 9))) (qlst (qcons (qF C_law_word (hr.mono (by lia)) pass0 rfl (qcons (qv 0) qnil)) qnil))) (qslice (xSl K) (qv 8) (osome (qop rAdd (qv 9) qint)) onone)) qnil)))) bnil)
      (bcons (sif (tcmp (rEqq hr) (qv 2) qint (nomark _)) (bone (sret (qop rAdd (qop rAdd (qslice xSlS (qv 1) onone (osome (qv 3))) (qF C_law_word (hr.mono (by lia)) pass0 rfl (qcons (qv 0) qnil))) (qslice xSlS (qv 1) (osome (qv 3)) onone)))) bnil)
      (bone (sret (qF C_law_word (hr.mono (by lia)) pass0 rfl (qcons (qv 0) qnil)))))))))))))))))))), ?_⟩
    refine ⟨_, rfl, p, 9, rfl, hp, by decide, by decide +kernel, fun kind H1 k0 k1 p1 s1 => ?_⟩
    have hbl : x.length ≤ 200000 := by lia
    refine ⟨_, rfl, _, rfl, x, rfl, big hbl, p, (x.length : Int) + 1, rfl, p1, by lia, hcap (by lia), fun at_ H2 a0 a1 p2 s2 => ?_⟩
    refine ⟨_, rfl, _, rfl, x, rfl, big hbl, p, (x.length : Int) + 1, rfl, p2, by lia, hcap (by lia), fun to H3 t0 t1 p3 s3 => ?_⟩
    refine ⟨_, rfl, p, 18, rfl, p3, by decide, by decide +kernel, fun sg H4 g0 g1 p4 s4 => ?_⟩
    obtain ⟨c, hc, hcm⟩ := atI_mem (xs := ("0123456789-()|. a~" : Str).cps.toList) g0 g1
    have hc1 : c < 128 := of_decide_eq_true (List.all_eq_true.mp (show ("0123456789-()|. a~" : Str).cps.toList.all (fun c => decide (c < 128)) = true by decide +kernel) c hcm)
    have hS : Tb 1 ⟨#[c]⟩ := ⟨Nat.le_refl _, fun d hd => by
      have : d = c := by simpa using hd
      lia⟩
    refine ⟨_, sg, c, rfl, rfl, big (by decide), hc, ?_⟩
    refine ⟨_, rfl, _, rfl, _, _, rfl, ?_⟩
    refine ⟨_, rfl, _, rfl, _, _, rfl, ?_⟩
    have s04 : Same (rm p H) H4 := rm_trans (rm_trans (rm_trans s1 s2) s3) s4
    have hlo := (lo_hi a0 a1 t0 t1).1
    have hlh := (lo_hi a0 a1 t0 t1).2.1
    have hhi := (lo_hi a0 a1 t0 t1).2.2
    have fin : ∀ y, Tb (n + 300) y → Q (.str y) H4 := fun y hy => q y H4 hy p4 s04
    have a1' : at_ ≤ x.length := Int.lt_add_one_iff.mp a1
    have hh0 := Int.le_trans hlo hlh
    have k2 := k_two a0 a1'
    have k3 := k_two hh0 hhi
    have k4 := k_q (k_mid hlo hlh hhi) hl
    refine ⟨_, rfl, _, rfl, ?_⟩
    have tA := sl_to hT a0 a1'
    have tB := sl_from hT (i := at_ + 1) a0 (Int.le_add_one (Int.le_refl _)) a1'
    have tC := sl_from hT a0 (Int.le_refl _) a1'
    have tL := sl_to hT hlo (Int.le_trans hlh hhi)
    have tH := sl_from hT hh0 (Int.le_refl _) hhi
    have tU := sl_to hT hh0 hhi
    have tM := sl_mid hT hlo hlh hhi
    refine ite2 (fun _ => ?_) (fun _ => ?_)
    · have Z := two tA tB (k_p (c := 0) k2 hl (by decide)) hn
      exact ⟨_, rfl, _, rfl, _, rfl, x, rfl, Z.1, _, rfl, _, rfl, _, rfl, x, rfl, Z.2.1, Z.2.2.1, fin _ Z.2.2.2⟩
    refine ⟨_, rfl, _, rfl, ?_⟩
    refine ite2 (fun _ => ?_) (fun _ => ?_)
    · have Z := three tA hS tC (k_p k2 hl (by decide)) hn
      exact ⟨_, rfl, _, rfl, _, rfl, x, rfl, Z.1, _, rfl, Z.2.2.2.1, _, rfl, _, rfl, _, rfl, x, rfl, Z.2.2.1, Z.2.2.2.2.1, fin _ Z.2.2.2.2.2⟩
    refine ⟨_, rfl, _, rfl, ?_⟩
    refine ite2 (fun _ => ?_) (fun _ => ?_)
    · have Z := three tA hS tB (k_p k2 hl (by decide)) hn
      exact ⟨_, rfl, _, rfl, _, rfl, x, rfl, Z.1, _, rfl, Z.2.2.2.1, _, rfl, _, rfl, _, rfl, x, rfl, Z.2.2.1, Z.2.2.2.2.1, fin _ Z.2.2.2.2.2⟩
    refine ⟨_, rfl, _, rfl, ?_⟩
    refine ite2 (fun _ => ?_) (fun _ => ?_)
    · have Z := two tL tH k4.1 hn
      exact ⟨_, rfl, _, rfl, _, rfl, x, rfl, Z.1, _, rfl, _, rfl, _, rfl, x, rfl, Z.2.1, Z.2.2.1, fin _ Z.2.2.2⟩
    refine ⟨_, rfl, _, rfl, ?_⟩
    refine ite2 (fun _ => ?_) (fun _ => ?_)
    · have Z := three tU (sl_200 tM) tH (k_p k3 hl (by decide)) hn
      exact ⟨_, rfl, _, rfl, _, rfl, x, rfl, Z.1, _, rfl, _, rfl, _, rfl, _, rfl, _, rfl, x, rfl, (two tM (Tb.rep (n := 0) (c := 0) (by decide)) (n := n) k4.2.2 hn).1, _, rfl, _, rfl, Z.2.1, Z.2.2.2.1, _, rfl, _, rfl, _, rfl, x, rfl, Z.2.2.1, Z.2.2.2.2.1, fin _ Z.2.2.2.2.2⟩
    refine ⟨_, rfl, _, rfl, ?_⟩
    refine ite2 (fun _ => ?_) (fun _ => ?_)
    · have Z := three tH tM tL k4.2.1 hn
      exact ⟨_, rfl, _, rfl, _, rfl, x, rfl, Z.1, _, rfl, _, rfl, _, rfl, _, rfl, _, rfl, x, rfl, Z.2.1, Z.2.2.2.1, _, rfl, _, rfl, _, rfl, x, rfl, Z.2.2.1, Z.2.2.2.2.1, fin _ Z.2.2.2.2.2⟩
    have hsl := split_len x 32
    refine ⟨_, rfl, rfl, x, _, rfl, rfl, rfl, big (by lia), ?_, ?_⟩
    · rw [c_sp]; exact big (by lia)
    rw [c_sp]
    refine fun lw H5 n5 s5 e5 _ => ?_
    have hne := split_ne x ⟨#[32]⟩
    have hlp : 0 < (Txt.split x ⟨#[32]⟩).length := List.length_pos_iff.mpr hne
    have hjs := jl_split x 32
    have hwt : ∀ y ∈ Txt.split x ⟨#[32]⟩, ∀ d ∈ ls y, d < 128 := fun y hy => (split_t (x := x) ⟨by lia, hT.2⟩ 32 hy).2
    generalize Txt.split x ⟨#[32]⟩ = ts at hsl e5 hlp hjs hwt
    have p5 := p4.mono s5
    have hlwp : lw ≠ p := p4.ne n5
    refine ⟨_, rfl, _, rfl, lw, _, rfl, .inl (SqL.of e5), p, (((ts.map V.str).length : Nat) : Int), rfl, p5, by rw [List.length_map]; lia, by rw [List.length_map]; exact hcap (by lia), fun pl H6 pl0 pl1 p6 s6 => ?_⟩
    rw [List.length_map] at pl1
    have e6 := rm_look s6 e5 hlwp
    have s06 : Same (rm p H) H6 := rm_trans (s04.trans s5) s6
    have fin6 : ∀ y H', Tb (n + 300) y → Pen3 H' p → Same (rm p H6) H' → Q (.str y) H' := fun y H' hy pp ss => q y H' hy pp (rm_trans s06 ss)
    obtain ⟨k, rfl⟩ := Int.eq_ofNat_of_zero_le pl0
    refine ⟨_, rfl, _, rfl, ?_⟩
    refine ite2 (fun _ => ?_) (fun _ => ?_)
    · refine ⟨rfl, _, rfl, _, rfl, _, rfl, lw, _, rfl, SqL.of e6, fun c1 H7 n7 s7 e7 _ => ?_⟩
      rw [join_at] at e7
      refine ⟨_, rfl, p, rfl, p6.mono s7, fun y H8 hy p8 s8 => ?_⟩
      refine ⟨(show 1 ≤ sizeLine by decide), fun c2 H9 n9 s9 e9 _ => ?_⟩
      have hc1p : c1 ≠ p := p6.ne n7
      have e79 := s9 _ _ (rm_look s8 e7 hc1p)
      have e69 := s9 _ _ (rm_look s8 (s7 _ _ e6) hlwp)
      refine ⟨_, _, e79, e9, big (by rw [List.length_map, List.length_take]; show _ + 1 ≤ _; lia), fun c3 Ha na sa ea _ => ?_⟩
      refine ⟨_, rfl, _, rfl, _, rfl, lw, _, rfl, SqL.of (sa _ _ e69), fun c4 Hb nb sb eb _ => ?_⟩
      rw [show ((k : Int) + 1) = ((k + 1 : Nat) : Int) by lia, join_fr] at eb
      refine ⟨_, _, sb _ _ ea, eb, big (by rw [List.length_append, List.length_map, List.length_take, List.length_map, List.length_drop]; show _ + 1 + _ ≤ _; lia), fun c5 Hc nc sc ec _ => ?_⟩
      have et : (List.map V.str (ts.take k) ++ [V.str y] ++ List.map V.str (ts.drop (k + 1))) = (ts.take k ++ [y] ++ ts.drop (k + 1)).map V.str := by simp
      rw [et] at ec
      have hjl : jl (ts.take k ++ [y] ++ ts.drop (k + 1)) ≤ n + 300 := jl_in k hjs hl hy.1
      refine ⟨_, c5, ts.take k ++ [y] ++ ts.drop (k + 1), rfl, rfl, SqL.of ec, ?_, ?_⟩
      · exact jl_ok (by lia)
      have s69 := s9.trans (sa.trans (sb.trans sc))
      refine fin6 _ Hc ((jl_tb (by decide) fun z hz => ?_).le hjl) (p8.mono s69) (((rm_of' s7).trans s8).trans s69)
      rcases List.mem_append.mp hz with hz | hz
      · rcases List.mem_append.mp hz with hz | hz
        · exact hwt z (List.mem_of_mem_take hz)
        · rw [List.mem_singleton] at hz; rw [hz]; exact hy.2
      · exact hwt z (List.mem_of_mem_drop hz)
    refine ⟨_, rfl, _, rfl, ?_⟩
    refine ite2 (fun _ => ?_) (fun _ => ?_)
    · refine ⟨_, rfl, _, rfl, _, rfl, x, rfl, (two tA tB (k_p (c := 0) k2 hl (by decide)) hn).1, _, rfl, p, rfl, p6, fun y H7 hy p7 s7 => ?_⟩
      have Z := three tA hy tC (k_p k2 hl (by decide)) hn
      exact ⟨Z.2.2.2.1, _, rfl, _, rfl, _, rfl, x, rfl, Z.2.2.1, Z.2.2.2.2.1, fin6 _ H7 Z.2.2.2.2.2 p7 s7⟩
    · exact ⟨_, rfl, p, rfl, p6, fun y H7 hy p7 s7 => fin6 y H7 (hy.le (by lia)) p7 s7⟩
end
end K48
namespace K48
open PySem L2 L3 PySem.NumText
noncomputable def spLaw (K : PySem.W.Frag) : Sp := fun vs H Q _ => ∃ (a : Addr) (ns : List Int), vs = [.ref a] ∧ SqL K H a (ns.map V.int) ∧ ns.length ≤ 63 ∧ ∀ H', Q (.bl true) H'
theorem Tb.t48 {n : Nat} {x : Str} (h : Tb n x) (hn : n ≤ 100000) : T48 x := h.le hn
theorem rep_t48 (c d k : Nat) (hc : c < 128) (hd : d < 128) (hk : k ≤ 100) : Tb 300 (Str.join ⟨#[c]⟩ (List.replicate k ⟨#[d]⟩)) ∧ JoinOk ⟨#[c]⟩ (List.replicate k ⟨#[d]⟩) = true := by
  have hj : jl (List.replicate k (⟨#[d]⟩ : Str)) ≤ 200 := by
    have := jl_le (B := 1) (List.replicate k (⟨#[d]⟩ : Str)) fun y hy => by rw [(List.mem_replicate.mp hy).2]; exact Nat.le_refl _
    rw [List.length_replicate] at this
    have h2 : k * 2 ≤ 100 * 2 := Nat.mul_le_mul_right _ hk
    lia
  refine ⟨(jl_tb hc fun y hy e he => ?_).le (by lia), jl_ok (by lia)⟩
  rw [(List.mem_replicate.mp hy).2] at he
  have : e = d := by simpa using he
  lia
theorem flat_rep (x : Str) : ∀ k : Nat, (List.replicate k [V.str x]).flatten = (List.replicate k x).map V.str
  | 0 => rfl
  | k + 1 => by rw [List.replicate_succ, List.flatten_cons, flat_rep x k, List.replicate_succ]; rfl
theorem c_1 : ("1" : Str) = ⟨#[49]⟩ := by decide
theorem c_7 : ("7" : Str) = ⟨#[55]⟩ := by decide
inductive LawI (H : Hp) (a : Addr) (σ : L2.St) (G : Hp) : Prop
  | mk (z1 z2 z3 z4 z5 z6 : Option V) (e : σ = [some (.ref a), z1, z2, z3, z4, z5, z6, none]) (s : Same H G) : LawI H a σ G
inductive LawJ (H : Hp) (a p : Addr) (i mm : Int) (z6 : Option V) (j : Nat) (σ : L2.St) (G : Hp) : Prop
  | mk (y : Str) (z5 : Option V) (e : σ = [some (.ref a), some (.int i), some (.ref p), some (.int mm), some (.str y), z5, z6, none]) (hT : Tb (16000 + 300 * j) y) (hp : Pen3 G p) (s : Same H G) : LawJ H a p i mm z6 j σ G
theorem two_at {C : Prop} {y1 y2 : Str} {d : Int} (d0 : 0 ≤ d) (d1 : d < 2) (h1 : Tb 16000 y1) (h2 : Tb 12000 y2) (k : ∀ y, atI [V.str y1, .str y2] d = some (.str y) → Tb 16000 y → C) : C := by
  have : d = 0 ∨ d = 1 := by lia
  rcases this with e | e <;> subst e
  · exact k y1 rfl h1
  · exact k y2 rfl (h2.le (by decide))
theorem thing_at {C : Prop} {G : Hp} {y : Str} {o1 o2 o3 o4 : Addr} {d : Int} (d0 : 0 ≤ d) (d1 : d < 8) (f1 : G o1 = some (.lst [.str y])) (f2 : G o2 = some (.tup [.str y])) (f3 : G o3 = some (.dK [])) (f4 : G o4 = some (.tup [.non, .int 5, .non]))
    (k : ∀ v dd, atI [V.non, .int 5, .bl true, .ref o1, .ref o2, .ref o3, .int 0, .ref o4] d = some v → Rep G v dd → (∀ x, dd ≠ .str x) → C) : C := by
  have : d = 0 ∨ d = 1 ∨ d = 2 ∨ d = 3 ∨ d = 4 ∨ d = 5 ∨ d = 6 ∨ d = 7 := by lia
  rcases this with e | e | e | e | e | e | e | e <;> subst e
  · exact k _ _ rfl .non fun x z => nomatch z
  · exact k _ _ rfl (.int 5) fun x z => nomatch z
  · exact k _ _ rfl (.bl true) fun x z => nomatch z
  · exact k _ _ rfl (.lst f1 (.cons (.str y) .nil)) fun x z => nomatch z
  · exact k _ _ rfl (.tup f2 (.cons (.str y) .nil)) fun x z => nomatch z
  · exact k _ _ rfl (.emp f3) fun x z => nomatch z
  · exact k _ _ rfl (.int 0) fun x z => nomatch z
  · exact k _ _ rfl (.tup f4 (.cons .non (.cons (.int 5) (.cons .non .nil)))) fun x z => nomatch z
section
variable {P : Program} {w : World} {K : PySem.W.Frag} {mg : Str → Option Value} {base : Heap}
theorem ok_law {f : Addr} {fd : FuncData} (F : Fun K "law" "law" s_law f fd) (T : Tx K mg) (C_law_pen : Cal P w K mg base CX0 1 "_law_pen" (spPen K)) (C_law_draw : Cal P w K mg base CX0 1 "_law_draw" spDraw) (C_law_tree_text : Cal P w K mg base CX0 2 "_law_tree_text" spTt) (C_law_layout_text : Cal P w K mg base CX0 2 "_law_layout_text" spLt)
    (C_law_right : Cal P w K mg base CX0 84 "_law_right" spRight) (C_law_bent : Cal P w K mg base CX0 3 "_law_bent" spBent) (C_law_refused : Cal P w K mg base CX0 83 "_law_refused" spRef) : FnOk P w K mg base CX0 85 f fd ["_law_script"] (spLaw K) := by
  refine okQ F sc_law (fun vs H Q E h => ?_) (fun cdv A outer s H vs Q E hr h => ?_)
  · obtain ⟨a, ns, rfl, _⟩ := h; rfl
  · obtain ⟨a, ns, rfl, ha, hl, q⟩ := h
    refine ⟨_, (bcons (sfor PassesOwn.never rfl (irange1 rfl T.b_range (qcons qint qnil)) (gname (i := 1) sc_law.nd rfl (by first | exact Or.inl rfl | exact Or.inr rfl))
        (bcons (sset (i := 2) sc_law.nd rfl (by first | exact Or.inl rfl | exact Or.inr rfl) (qF C_law_pen (hr.mono (by lia)) pass0 rfl (qcons (qv 0) (qcons (qv 1) qnil))))
        (bcons (sset (i := 3) sc_law.nd rfl (by first | exact Or.inl rfl | exact Or.inr rfl) (qF C_law_draw (hr.mono (by lia)) pass0 rfl (qcons (qv 2) (qcons qint qnil))))
        (bcons (sset (i := 4) sc_law.nd rfl (by first | exact Or.inl rfl | exact Or.inr rfl) (qix (xIx K) (qlst (qcons (qF C_law_tree_text (hr.mono (by lia)) pass0 rfl (qcons (qv 2) (qcons (qv 3) qnil))) (qcons (qF C_law_layout_text (hr.mono (by lia)) pass0 rfl (qcons (qv 2) (qcons (qv 3) qnil))) qnil))) (qF C_law_draw (hr.mono (by lia)) pass0 rfl (qcons (qv 2) (qcons qint qnil))) (fun _ _ => rfl)))
        (bcons (sif (tnot (ttru K (qF C_law_right (hr.mono (by lia)) pass0 rfl (qcons (qv 4) qnil)) (fun _ => rfl))) (bone (sret qbl)) bnil)
        (bcons (sfor PassesOwn.never rfl (irange1 rfl T.b_range (qcons qint qnil)) (gname (i := 5) sc_law.nd rfl (by first | exact Or.inl rfl | exact Or.inr rfl))
          (bcons (sset (i := 4) sc_law.nd rfl (by first | exact Or.inl rfl | exact Or.inr rfl) (qF C_law_bent (hr.mono (by lia)) pass0 rfl (qcons (qv 2) (qcons (qv 4) qnil))))
          (bone (sif (tnot (ttru K (qF C_law_right (hr.mono (by lia)) pass0 rfl (qcons (qv 4) qnil)) (fun _ => rfl))) (bone (sret qbl)) bnil))))
        (bcons (sset (i := 6) sc_law.nd rfl (by first | exact Or.inl rfl | exact Or.inr rfl) (qix (xIx K) (qlst (qcons qnon (qcons qint (qcons qbl (qcons (qlst (qcons (qv 4) qnil)) (qcons (qtup (qcons (qv 4) qnil)) (qcons qdict (qcons qint (qcons (qtup (qcons qnon (qcons qint (qcons qnon qnil)))) qnil))))))))) (qF C_law_draw (hr.mono (by lia)) pass0 rfl (qcons (qv 2) (qcons qint qnil))) (fun _ _ => rfl)))
        (bone (sif (QW.tst (wor (tnot (ttru K (qF C_law_refused (hr.mono (by lia)) pass0 rfl (qcons (qv 6) (qcons qbl qnil))) (fun _ => rfl))) (wor1 (tnot (ttru K (qF C_law_refused (hr.mono (by lia)) pass0 rfl (qcons (qv 6) (qcons qbl qnil))) (fun _ => rfl)))))) (bone (sret qbl)) bnil)))))))))
      (bcons (sset (i := 7) sc_law.nd rfl (by first | exact Or.inl rfl | exact Or.inr rfl) (qBm K PySem.F.plainAttrs_str PySem.F.slot_str_join PySem.F.type_str_join (mJoin K) qstr (qcons (qop rMulL (qlst (qcons qstr qnil)) qint) qnil)))
      (bone (sret (qand K (qF C_law_right (hr.mono (by lia)) pass0 rfl (qcons (qv 7) qnil)) (qand K (qF C_law_right (hr.mono (by lia)) pass0 rfl (qcons (qop rAdd (qv 7) qstr) qnil)) (qand K (qF C_law_right (hr.mono (by lia)) pass0 rfl (qcons (qBm K PySem.F.plainAttrs_str PySem.F.slot_str_join PySem.F.type_str_join (mJoin K) qstr (qcons (qop rMulL (qlst (qcons qstr qnil)) qint) qnil)) qnil)) (qone (qF C_law_right (hr.mono (by lia)) pass0 rfl (qcons (qop rMulS qstr qint) qnil)))))))))), ?_⟩
    refine ⟨8, rfl, by decide, by decide, for_range (n := 8) (fun _ => LawI H a) ⟨none, none, none, none, none, none, rfl, Same.refl _⟩ ?_ ?_⟩
    · rintro i σ G hi ⟨z1, z2, z3, z4, z5, z6, rfl, sG⟩
      refine ⟨_, rfl, _, rfl, a, 0 + (i : Int), ns, rfl, sG.seq ha, hl, by lia, by lia, fun p G1 n1 s1 p1 => ?_⟩
      have nH : H p = none := sG.free n1
      refine ⟨_, rfl, p, 62, rfl, p1, by decide, by decide +kernel, fun mm G2 m0 m1 p2 s2 => ?_⟩
      refine ⟨_, rfl, _, rfl, p, mm, rfl, p2, m0, by lia, fun y1 G3 hy1 p3 s3 => ?_⟩
      refine ⟨_, rfl, _, rfl, p, mm, rfl, p3, m0, by lia, fun y2 G4 hy2 p4 s4 => ?_⟩
      refine ⟨(show 2 ≤ sizeLine by decide), fun lt G5 n5 s5 e5 _ => ?_⟩
      have hlt : lt ≠ p := p4.ne n5
      refine ⟨_, rfl, p, 2, rfl, p4.mono s5, by decide, by decide +kernel, fun d G6 d0 d1 p6 s6 => ?_⟩
      have e6 := rm_look s6 e5 hlt
      have hs6 : Same H G6 := by
        have h1 : Same H (rm p G1) := rm_of (sG.trans s1) nH
        have h4 := rm_trans (rm_trans s2 s3) s4
        exact h1.trans (rm_trans (h4.trans s5) s6)
      refine two_at d0 d1 hy1 hy2 fun y hy hT => ?_
      refine ⟨lt, _, d, .str y, rfl, rfl, .inl (SqL.of e6), hy, ?_⟩
      refine ⟨_, rfl, y, rfl, hT.t48 (by decide), fun G7 s7 => ?_⟩
      refine ⟨_, rfl, ?_⟩
      refine iteF ?_
      refine ⟨2, rfl, by decide, by decide, for_range (n := 2) (LawJ H a p (0 + (i : Int)) mm z6) ⟨y, z5, rfl, hT, p6.mono s7, hs6.trans s7⟩ ?_ ?_⟩
      · rintro j σ G8 hj ⟨y, z5, rfl, hT, p8, s8⟩
        refine ⟨_, rfl, _, rfl, p, y, 16000 + 300 * j, rfl, p8, hT, by lia, fun y' G9 hy' p9 s9 => ?_⟩
        refine ⟨_, rfl, y', rfl, hy'.t48 (by lia), fun Ga sa => ?_⟩
        refine ⟨_, rfl, ?_⟩
        refine iteF ?_
        exact ⟨y', _, rfl, hy'.le (by lia), p9.mono sa, (rm_of s8 nH).trans (s9.trans sa)⟩
      · rintro σ G8 ⟨y, z5, rfl, hT, p8, s8⟩
        refine ⟨_, rfl, (show 1 ≤ sizeLine by decide), fun o1 Ga na sa ea _ => ?_⟩
        refine ⟨_, rfl, (show 1 ≤ sizeLine by decide), fun o2 Gb nb sb eb _ => ?_⟩
        refine fun o3 Gc nc sc ec _ => ?_
        refine ⟨(show 3 ≤ sizeLine by decide), fun o4 Gd nd sd ed _ => ?_⟩
        refine ⟨(show 8 ≤ sizeLine by decide), fun o5 Ge ne se ee _ => ?_⟩
        have pd := p8.mono (sa.trans (sb.trans (sc.trans sd)))
        have h5p : o5 ≠ p := pd.ne ne
        refine ⟨_, rfl, p, 8, rfl, pd.mono se, by decide, by decide +kernel, fun d' Gf d0' d1' pf sf => ?_⟩
        have h1p : o1 ≠ p := p8.ne na
        have h2p : o2 ≠ p := (p8.mono sa).ne nb
        have h3p : o3 ≠ p := (p8.mono (sa.trans sb)).ne nc
        have h4p : o4 ≠ p := (p8.mono (sa.trans (sb.trans sc))).ne nd
        have f1 := rm_look sf ((sb.trans (sc.trans (sd.trans se))) _ _ ea) h1p
        have f2 := rm_look sf ((sc.trans (sd.trans se)) _ _ eb) h2p
        have f3 := rm_look sf ((sd.trans se) _ _ ec) h3p
        have f4 := rm_look sf (se _ _ ed) h4p
        refine thing_at d0' d1' f1 f2 f3 f4 fun v dd hv hr' hbad => ?_
        have hsf : Same H Gf := (rm_of (s8.trans (sa.trans (sb.trans (sc.trans (sd.trans se))))) nH).trans sf
        refine ⟨o5, _, d', v, rfl, rfl, .inl (SqL.of (rm_look sf ee h5p)), hv, ?_⟩
        refine ⟨_, rfl, v, dd, false, rfl, hr', .inl hbad, fun Gg sg => ?_⟩
        refine ⟨_, rfl, ?_⟩
        refine iteF ?_
        refine ⟨_, rfl, v, dd, true, rfl, hr'.mono sg, .inl hbad, fun Gh sh => ?_⟩
        refine ⟨_, rfl, ?_⟩
        refine iteF ?_
        exact ⟨_, _, _, _, _, _, rfl, hsf.trans (sg.trans sh)⟩
    · rintro σ G ⟨z1, z2, z3, z4, z5, z6, rfl, sG⟩
      refine ⟨rfl, (show 1 ≤ sizeLine by decide), fun l1 G1 n1 s1 e1 _ => ?_⟩
      refine ⟨l1, 60, _, rfl, rfl, e1, by decide, by decide, big (by decide), fun l2 G2 n2 s2 e2 _ => ?_⟩
      rw [flat_rep] at e2
      have ⟨tG, jG⟩ := rep_t48 124 49 (60 : Int).toNat (by decide) (by decide) (by decide)
      refine ⟨_, l2, List.replicate (60 : Int).toNat "1", rfl, rfl, SqL.of e2, ?_, ?_⟩
      · rw [c_bar, c_1]; exact jG
      rw [c_bar, c_1]
      refine ⟨_, rfl, _, rfl, tG.t48 (by decide), fun G3 s3 => ?_⟩
      refine ⟨_, rfl, ?_⟩
      refine iteT ?_
      have lG := tG.1
      have h2 : ("|1" : Str).length ≤ 2 := by decide
      refine ⟨_, rfl, big (Nat.le_trans (Nat.add_le_add lG h2) (by decide)), _, rfl, (tG.app (m := 2) ⟨Nat.le_refl _, by decide⟩).t48 (by decide), fun G4 s4 => ?_⟩
      refine ⟨_, rfl, ?_⟩
      refine iteT ?_
      refine ⟨rfl, (show 1 ≤ sizeLine by decide), fun l5 G5 n5 s5 e5 _ => ?_⟩
      refine ⟨l5, 61, _, rfl, rfl, e5, by decide, by decide, big (by decide), fun l6 G6 n6 s6 e6 _ => ?_⟩
      rw [flat_rep] at e6
      have ⟨tH, jH⟩ := rep_t48 32 55 (61 : Int).toNat (by decide) (by decide) (by decide)
      refine ⟨_, l6, List.replicate (61 : Int).toNat "7", rfl, rfl, SqL.of e6, ?_, ?_⟩
      · rw [c_sp, c_7]; exact jH
      rw [c_sp, c_7]
      refine ⟨_, rfl, tH.t48 (by decide), fun G7 s7 => ?_⟩
      refine ⟨_, rfl, ?_⟩
      refine iteT ?_
      refine ⟨124, 60, congrArg V.str (by decide), rfl, by decide, by decide, _, rfl, (Tb.rep (n := 60) (c := 124) (by decide)).t48 (by decide), fun G8 s8 => ?_⟩
      exact q G8
end
end K48
namespace K48Z
open PySem L2 L3 K48
theorem all_mk {l : PySem.W.OpenLaw} {w : World} {K : PySem.W.Frag} {h : Heap} {mg : Str → Option Value} {fa : Addr} (X : K.In h) (G : h.Ns mainGlobals mg) (hfa : mg "law" = some (.ref fa))
    {f0 : Addr} {oc0 kV0 dc0 pm0 cd0 ct0 : Value} {od0 an0 : Option Addr} {sl0 : Array (Option Value)}
    {f1 : Addr} {oc1 kV1 dc1 pm1 cd1 ct1 : Value} {od1 an1 : Option Addr} {sl1 : Array (Option Value)}
    {f2 : Addr} {oc2 kV2 dc2 pm2 cd2 ct2 : Value} {od2 an2 : Option Addr} {sl2 : Array (Option Value)}
    {f3 : Addr} {oc3 kV3 dc3 pm3 cd3 ct3 : Value} {od3 an3 : Option Addr} {sl3 : Array (Option Value)}
    {f4 : Addr} {oc4 kV4 dc4 pm4 cd4 ct4 : Value} {od4 an4 : Option Addr} {sl4 : Array (Option Value)}
    {f5 : Addr} {oc5 kV5 dc5 pm5 cd5 ct5 : Value} {od5 an5 : Option Addr} {sl5 : Array (Option Value)}
    {f6 : Addr} {oc6 kV6 dc6 pm6 cd6 ct6 : Value} {od6 an6 : Option Addr} {sl6 : Array (Option Value)}
    {f7 : Addr} {oc7 kV7 dc7 pm7 cd7 ct7 : Value} {od7 an7 : Option Addr} {sl7 : Array (Option Value)}
    {f8 : Addr} {oc8 kV8 dc8 pm8 cd8 ct8 : Value} {od8 an8 : Option Addr} {sl8 : Array (Option Value)}
    {f9 : Addr} {oc9 kV9 dc9 pm9 cd9 ct9 : Value} {od9 an9 : Option Addr} {sl9 : Array (Option Value)}
    {f10 : Addr} {oc10 kV10 dc10 pm10 cd10 ct10 : Value} {od10 an10 : Option Addr} {sl10 : Array (Option Value)}
    {f11 : Addr} {oc11 kV11 dc11 pm11 cd11 ct11 : Value} {od11 an11 : Option Addr} {sl11 : Array (Option Value)}
    {f12 : Addr} {oc12 kV12 dc12 pm12 cd12 ct12 : Value} {od12 an12 : Option Addr} {sl12 : Array (Option Value)}
    {f13 : Addr} {oc13 kV13 dc13 pm13 cd13 ct13 : Value} {od13 an13 : Option Addr} {sl13 : Array (Option Value)}
    {f14 : Addr} {oc14 kV14 dc14 pm14 cd14 ct14 : Value} {od14 an14 : Option Addr} {sl14 : Array (Option Value)}
    {f15 : Addr} {oc15 kV15 dc15 pm15 cd15 ct15 : Value} {od15 an15 : Option Addr} {sl15 : Array (Option Value)}
    {f16 : Addr} {oc16 kV16 dc16 pm16 cd16 ct16 : Value} {od16 an16 : Option Addr} {sl16 : Array (Option Value)}
    {f17 : Addr} {oc17 kV17 dc17 pm17 cd17 ct17 : Value} {od17 an17 : Option Addr} {sl17 : Array (Option Value)}
    {f18 : Addr} {oc18 kV18 dc18 pm18 cd18 ct18 : Value} {od18 an18 : Option Addr} {sl18 : Array (Option Value)}
    {f19 : Addr} {oc19 kV19 dc19 pm19 cd19 ct19 : Value} {od19 an19 : Option Addr} {sl19 : Array (Option Value)}
    {f20 : Addr} {oc20 kV20 dc20 pm20 cd20 ct20 : Value} {od20 an20 : Option Addr} {sl20 : Array (Option Value)}
    {f21 : Addr} {oc21 kV21 dc21 pm21 cd21 ct21 : Value} {od21 an21 : Option Addr} {sl21 : Array (Option Value)}
    {f22 : Addr} {oc22 kV22 dc22 pm22 cd22 ct22 : Value} {od22 an22 : Option Addr} {sl22 : Array (Option Value)}
    {f23 : Addr} {oc23 kV23 dc23 pm23 cd23 ct23 : Value} {od23 an23 : Option Addr} {sl23 : Array (Option Value)}
    {f24 : Addr} {oc24 kV24 dc24 pm24 cd24 ct24 : Value} {od24 an24 : Option Addr} {sl24 : Array (Option Value)}
    {f25 : Addr} {oc25 kV25 dc25 pm25 cd25 ct25 : Value} {od25 an25 : Option Addr} {sl25 : Array (Option Value)}
    {f26 : Addr} {oc26 kV26 dc26 pm26 cd26 ct26 : Value} {od26 an26 : Option Addr} {sl26 : Array (Option Value)}
    {f27 : Addr} {oc27 kV27 dc27 pm27 cd27 ct27 : Value} {od27 an27 : Option Addr} {sl27 : Array (Option Value)}
    (a0 : PySem.W.nsIn K mainGlobals "is_whole" = some (some (.ref f0))) (l0 : K.lookup f0 = some ⟨oc0, od0, .func (PySem.W.fnOf "is_whole" "is_whole" (defArgs s_is_whole) (defBody s_is_whole) (defScope s_is_whole) .none kV0 dc0 pm0 an0 cd0 ct0), sl0⟩) (c0 : PySem.W.codeIn K cd0 "is_whole" = true) (k0 : PySem.W.keepIn K (.ref f0) = true)
    (a1 : PySem.W.nsIn K mainGlobals "is_knot" = some (some (.ref f1))) (l1 : K.lookup f1 = some ⟨oc1, od1, .func (PySem.W.fnOf "is_knot" "is_knot" (defArgs s_is_knot) (defBody s_is_knot) (defScope s_is_knot) .none kV1 dc1 pm1 an1 cd1 ct1), sl1⟩) (c1 : PySem.W.codeIn K cd1 "is_knot" = true) (k1 : PySem.W.keepIn K (.ref f1) = true)
    (a2 : PySem.W.nsIn K mainGlobals "lies_between" = some (some (.ref f2))) (l2 : K.lookup f2 = some ⟨oc2, od2, .func (PySem.W.fnOf "lies_between" "lies_between" (defArgs s_lies_between) (defBody s_lies_between) (defScope s_lies_between) .none kV2 dc2 pm2 an2 cd2 ct2), sl2⟩) (c2 : PySem.W.codeIn K cd2 "lies_between" = true) (k2 : PySem.W.keepIn K (.ref f2) = true)
    (a3 : PySem.W.nsIn K mainGlobals "is_tree" = some (some (.ref f3))) (l3 : K.lookup f3 = some ⟨oc3, od3, .func (PySem.W.fnOf "is_tree" "is_tree" (defArgs s_is_tree) (defBody s_is_tree) (defScope s_is_tree) .none kV3 dc3 pm3 an3 cd3 ct3), sl3⟩) (c3 : PySem.W.codeIn K cd3 "is_tree" = true) (k3 : PySem.W.keepIn K (.ref f3) = true)
    (a4 : PySem.W.nsIn K mainGlobals "keys_of" = some (some (.ref f4))) (l4 : K.lookup f4 = some ⟨oc4, od4, .func (PySem.W.fnOf "keys_of" "keys_of" (defArgs s_keys_of) (defBody s_keys_of) (defScope s_keys_of) .none kV4 dc4 pm4 an4 cd4 ct4), sl4⟩) (c4 : PySem.W.codeIn K cd4 "keys_of" = true) (k4 : PySem.W.keepIn K (.ref f4) = true)
    (a5 : PySem.W.nsIn K mainGlobals "show_tree" = some (some (.ref f5))) (l5 : K.lookup f5 = some ⟨oc5, od5, .func (PySem.W.fnOf "show_tree" "show_tree" (defArgs s_show_tree) (defBody s_show_tree) (defScope s_show_tree) .none kV5 dc5 pm5 an5 cd5 ct5), sl5⟩) (c5 : PySem.W.codeIn K cd5 "show_tree" = true) (k5 : PySem.W.keepIn K (.ref f5) = true)
    (a6 : PySem.W.nsIn K mainGlobals "show_keys" = some (some (.ref f6))) (l6 : K.lookup f6 = some ⟨oc6, od6, .func (PySem.W.fnOf "show_keys" "show_keys" (defArgs s_show_keys) (defBody s_show_keys) (defScope s_show_keys) .none kV6 dc6 pm6 an6 cd6 ct6), sl6⟩) (c6 : PySem.W.codeIn K cd6 "show_keys" = true) (k6 : PySem.W.keepIn K (.ref f6) = true)
    (a7 : PySem.W.nsIn K mainGlobals "show_layout" = some (some (.ref f7))) (l7 : K.lookup f7 = some ⟨oc7, od7, .func (PySem.W.fnOf "show_layout" "show_layout" (defArgs s_show_layout) (defBody s_show_layout) (defScope s_show_layout) .none kV7 dc7 pm7 an7 cd7 ct7), sl7⟩) (c7 : PySem.W.codeIn K cd7 "show_layout" = true) (k7 : PySem.W.keepIn K (.ref f7) = true)
    (a8 : PySem.W.nsIn K mainGlobals "has_figures_alone" = some (some (.ref f8))) (l8 : K.lookup f8 = some ⟨oc8, od8, .func (PySem.W.fnOf "has_figures_alone" "has_figures_alone" (defArgs s_has_figures_alone) (defBody s_has_figures_alone) (defScope s_has_figures_alone) .none kV8 dc8 pm8 an8 cd8 ct8), sl8⟩) (c8 : PySem.W.codeIn K cd8 "has_figures_alone" = true) (k8 : PySem.W.keepIn K (.ref f8) = true)
    (a9 : PySem.W.nsIn K mainGlobals "read_number" = some (some (.ref f9))) (l9 : K.lookup f9 = some ⟨oc9, od9, .func (PySem.W.fnOf "read_number" "read_number" (defArgs s_read_number) (defBody s_read_number) (defScope s_read_number) .none kV9 dc9 pm9 an9 cd9 ct9), sl9⟩) (c9 : PySem.W.codeIn K cd9 "read_number" = true) (k9 : PySem.W.keepIn K (.ref f9) = true)
    (a10 : PySem.W.nsIn K mainGlobals "behind" = some (some (.ref f10))) (l10 : K.lookup f10 = some ⟨oc10, od10, .func (PySem.W.fnOf "behind" "behind" (defArgs s_behind) (defBody s_behind) (defScope s_behind) .none kV10 dc10 pm10 an10 cd10 ct10), sl10⟩) (c10 : PySem.W.codeIn K cd10 "behind" = true) (k10 : PySem.W.keepIn K (.ref f10) = true)
    (a11 : PySem.W.nsIn K mainGlobals "tree_from" = some (some (.ref f11))) (l11 : K.lookup f11 = some ⟨oc11, od11, .func (PySem.W.fnOf "tree_from" "tree_from" (defArgs s_tree_from) (defBody s_tree_from) (defScope s_tree_from) .none kV11 dc11 pm11 an11 cd11 ct11), sl11⟩) (c11 : PySem.W.codeIn K cd11 "tree_from" = true) (k11 : PySem.W.keepIn K (.ref f11) = true)
    (a12 : PySem.W.nsIn K mainGlobals "read_tree" = some (some (.ref f12))) (l12 : K.lookup f12 = some ⟨oc12, od12, .func (PySem.W.fnOf "read_tree" "read_tree" (defArgs s_read_tree) (defBody s_read_tree) (defScope s_read_tree) .none kV12 dc12 pm12 an12 cd12 ct12), sl12⟩) (c12 : PySem.W.codeIn K cd12 "read_tree" = true) (k12 : PySem.W.keepIn K (.ref f12) = true)
    (a13 : PySem.W.nsIn K mainGlobals "read_page" = some (some (.ref f13))) (l13 : K.lookup f13 = some ⟨oc13, od13, .func (PySem.W.fnOf "read_page" "read_page" (defArgs s_read_page) (defBody s_read_page) (defScope s_read_page) .none kV13 dc13 pm13 an13 cd13 ct13), sl13⟩) (c13 : PySem.W.codeIn K cd13 "read_page" = true) (k13 : PySem.W.keepIn K (.ref f13) = true)
    (a14 : PySem.W.nsIn K mainGlobals "read_layout" = some (some (.ref f14))) (l14 : K.lookup f14 = some ⟨oc14, od14, .func (PySem.W.fnOf "read_layout" "read_layout" (defArgs s_read_layout) (defBody s_read_layout) (defScope s_read_layout) .none kV14 dc14 pm14 an14 cd14 ct14), sl14⟩) (c14 : PySem.W.codeIn K cd14 "read_layout" = true) (k14 : PySem.W.keepIn K (.ref f14) = true)
    (a15 : PySem.W.nsIn K mainGlobals "_law_pen" = some (some (.ref f15))) (l15 : K.lookup f15 = some ⟨oc15, od15, .func (PySem.W.fnOf "_law_pen" "_law_pen" (defArgs s_law_pen) (defBody s_law_pen) (defScope s_law_pen) .none kV15 dc15 pm15 an15 cd15 ct15), sl15⟩) (c15 : PySem.W.codeIn K cd15 "_law_pen" = true) (k15 : PySem.W.keepIn K (.ref f15) = true)
    (a16 : PySem.W.nsIn K mainGlobals "_law_draw" = some (some (.ref f16))) (l16 : K.lookup f16 = some ⟨oc16, od16, .func (PySem.W.fnOf "_law_draw" "_law_draw" (defArgs s_law_draw) (defBody s_law_draw) (defScope s_law_draw) .none kV16 dc16 pm16 an16 cd16 ct16), sl16⟩) (c16 : PySem.W.codeIn K cd16 "_law_draw" = true) (k16 : PySem.W.keepIn K (.ref f16) = true)
    (a17 : PySem.W.nsIn K mainGlobals "_law_tree_text" = some (some (.ref f17))) (l17 : K.lookup f17 = some ⟨oc17, od17, .func (PySem.W.fnOf "_law_tree_text" "_law_tree_text" (defArgs s_law_tree_text) (defBody s_law_tree_text) (defScope s_law_tree_text) .none kV17 dc17 pm17 an17 cd17 ct17), sl17⟩) (c17 : PySem.W.codeIn K cd17 "_law_tree_text" = true) (k17 : PySem.W.keepIn K (.ref f17) = true)
    (a18 : PySem.W.nsIn K mainGlobals "_law_layout_text" = some (some (.ref f18))) (l18 : K.lookup f18 = some ⟨oc18, od18, .func (PySem.W.fnOf "_law_layout_text" "_law_layout_text" (defArgs s_law_layout_text) (defBody s_law_layout_text) (defScope s_law_layout_text) .none kV18 dc18 pm18 an18 cd18 ct18), sl18⟩) (c18 : PySem.W.codeIn K cd18 "_law_layout_text" = true) (k18 : PySem.W.keepIn K (.ref f18) = true)
    (a19 : PySem.W.nsIn K mainGlobals "_law_word" = some (some (.ref f19))) (l19 : K.lookup f19 = some ⟨oc19, od19, .func (PySem.W.fnOf "_law_word" "_law_word" (defArgs s_law_word) (defBody s_law_word) (defScope s_law_word) .none kV19 dc19 pm19 an19 cd19 ct19), sl19⟩) (c19 : PySem.W.codeIn K cd19 "_law_word" = true) (k19 : PySem.W.keepIn K (.ref f19) = true)
    (a20 : PySem.W.nsIn K mainGlobals "_law_bent" = some (some (.ref f20))) (l20 : K.lookup f20 = some ⟨oc20, od20, .func (PySem.W.fnOf "_law_bent" "_law_bent" (defArgs s_law_bent) (defBody s_law_bent) (defScope s_law_bent) .none kV20 dc20 pm20 an20 cd20 ct20), sl20⟩) (c20 : PySem.W.codeIn K cd20 "_law_bent" = true) (k20 : PySem.W.keepIn K (.ref f20) = true)
    (a21 : PySem.W.nsIn K mainGlobals "_law_is_key" = some (some (.ref f21))) (l21 : K.lookup f21 = some ⟨oc21, od21, .func (PySem.W.fnOf "_law_is_key" "_law_is_key" (defArgs s_law_is_key) (defBody s_law_is_key) (defScope s_law_is_key) .none kV21 dc21 pm21 an21 cd21 ct21), sl21⟩) (c21 : PySem.W.codeIn K cd21 "_law_is_key" = true) (k21 : PySem.W.keepIn K (.ref f21) = true)
    (a22 : PySem.W.nsIn K mainGlobals "_law_items" = some (some (.ref f22))) (l22 : K.lookup f22 = some ⟨oc22, od22, .func (PySem.W.fnOf "_law_items" "_law_items" (defArgs s_law_items) (defBody s_law_items) (defScope s_law_items) .none kV22 dc22 pm22 an22 cd22 ct22), sl22⟩) (c22 : PySem.W.codeIn K cd22 "_law_items" = true) (k22 : PySem.W.keepIn K (.ref f22) = true)
    (a23 : PySem.W.nsIn K mainGlobals "_law_tree_of" = some (some (.ref f23))) (l23 : K.lookup f23 = some ⟨oc23, od23, .func (PySem.W.fnOf "_law_tree_of" "_law_tree_of" (defArgs s_law_tree_of) (defBody s_law_tree_of) (defScope s_law_tree_of) .none kV23 dc23 pm23 an23 cd23 ct23), sl23⟩) (c23 : PySem.W.codeIn K cd23 "_law_tree_of" = true) (k23 : PySem.W.keepIn K (.ref f23) = true)
    (a24 : PySem.W.nsIn K mainGlobals "_law_layout_of" = some (some (.ref f24))) (l24 : K.lookup f24 = some ⟨oc24, od24, .func (PySem.W.fnOf "_law_layout_of" "_law_layout_of" (defArgs s_law_layout_of) (defBody s_law_layout_of) (defScope s_law_layout_of) .none kV24 dc24 pm24 an24 cd24 ct24), sl24⟩) (c24 : PySem.W.codeIn K cd24 "_law_layout_of" = true) (k24 : PySem.W.keepIn K (.ref f24) = true)
    (a25 : PySem.W.nsIn K mainGlobals "_law_refused" = some (some (.ref f25))) (l25 : K.lookup f25 = some ⟨oc25, od25, .func (PySem.W.fnOf "_law_refused" "_law_refused" (defArgs s_law_refused) (defBody s_law_refused) (defScope s_law_refused) .none kV25 dc25 pm25 an25 cd25 ct25), sl25⟩) (c25 : PySem.W.codeIn K cd25 "_law_refused" = true) (k25 : PySem.W.keepIn K (.ref f25) = true)
    (a26 : PySem.W.nsIn K mainGlobals "_law_right" = some (some (.ref f26))) (l26 : K.lookup f26 = some ⟨oc26, od26, .func (PySem.W.fnOf "_law_right" "_law_right" (defArgs s_law_right) (defBody s_law_right) (defScope s_law_right) .none kV26 dc26 pm26 an26 cd26 ct26), sl26⟩) (c26 : PySem.W.codeIn K cd26 "_law_right" = true) (k26 : PySem.W.keepIn K (.ref f26) = true)
    (a27 : PySem.W.nsIn K mainGlobals "law" = some (some (.ref f27))) (l27 : K.lookup f27 = some ⟨oc27, od27, .func (PySem.W.fnOf "law" "law" (defArgs s_law) (defBody s_law) (defScope s_law) .none kV27 dc27 pm27 an27 cd27 ct27), sl27⟩) (c27 : PySem.W.codeIn K cd27 "law" = true) (k27 : PySem.W.keepIn K (.ref f27) = true)
    (z_ValueError : PySem.W.nsIn K mainGlobals "ValueError" = some none) (z_all : PySem.W.nsIn K mainGlobals "all" = some none) (z_bool : PySem.W.nsIn K mainGlobals "bool" = some none) (z_int : PySem.W.nsIn K mainGlobals "int" = some none) (z_isinstance : PySem.W.nsIn K mainGlobals "isinstance" = some none) (z_len : PySem.W.nsIn K mainGlobals "len" = some none) (z_list : PySem.W.nsIn K mainGlobals "list" = some none) (z_max : PySem.W.nsIn K mainGlobals "max" = some none) (z_min : PySem.W.nsIn K mainGlobals "min" = some none) (z_range : PySem.W.nsIn K mainGlobals "range" = some none) (z_set : PySem.W.nsIn K mainGlobals "set" = some none) (z_sorted : PySem.W.nsIn K mainGlobals "sorted" = some none) (z_str : PySem.W.nsIn K mainGlobals "str" = some none) (z_sum : PySem.W.nsIn K mainGlobals "sum" = some none) (z_tuple : PySem.W.nsIn K mainGlobals "tuple" = some none) {tk_FIGURES : Tok} (z_FIGURES : PySem.W.nsIn K mainGlobals "FIGURES" = some (some (.str "0123456789" tk_FIGURES))) {tk_MOST_FIGURES : Tok} (z_MOST_FIGURES : PySem.W.nsIn K mainGlobals "MOST_FIGURES" = some (some (.int 60 tk_MOST_FIGURES))) {tk_MOST_KEYS : Tok} (z_MOST_KEYS : PySem.W.nsIn K mainGlobals "MOST_KEYS" = some (some (.int 60 tk_MOST_KEYS))) {tk_MOST_PAGES : Tok} (z_MOST_PAGES : PySem.W.nsIn K mainGlobals "MOST_PAGES" = some (some (.int 60 tk_MOST_PAGES)))
    {cL cX cF cM cW cT cN cH : Addr} (xL : PySem.W.nsIn K mainGlobals "LeafError" = some (some (.ref cL))) (xX : PySem.W.nsIn K mainGlobals "NoText" = some (some (.ref cX))) (xF : PySem.W.nsIn K mainGlobals "Full" = some (some (.ref cF))) (xM : PySem.W.nsIn K mainGlobals "NoRoom" = some (some (.ref cM))) (xW : PySem.W.nsIn K mainGlobals "NoRow" = some (some (.ref cW))) (xT : PySem.W.nsIn K mainGlobals "NoTree" = some (some (.ref cT))) (xN : PySem.W.nsIn K mainGlobals "NotThere" = some (some (.ref cN))) (xH : PySem.W.nsIn K mainGlobals "There" = some (some (.ref cH)))
    (oL : PySem.W.excIn K cL [.type "ValueError", .type "Exception", .type "BaseException", .type "object"] "ValueError.__new__" = true) (oX : PySem.W.excIn K cX [.type "ValueError", .type "Exception", .type "BaseException", .type "object"] "ValueError.__new__" = true) (ex : PySem.W.exmOne K (.ref cX) (.ref cL) = some true) (y1 : PySem.W.kitAny K (.ref cX) (([cF, cM, cW, cT, cN, cH] : List Addr).map Value.ref) = some false) (y2 : PySem.W.kitOne K (.ref cX) (.ref cX) = some true) (y3 : PySem.W.kitOne K (.ref cX) (.type "ValueError") = some true)
    (w1 : PySem.W.findIn K (.ref cX) "__getattribute__" = some (some (.builtin "BaseException.__getattribute__"))) (w7 : PySem.W.findIn K (.ref cX) "__getattr__" = some none) (w8 : PySem.W.mroIn K cX (.type "BaseException") = some true) (w2 : (PySem.W.clsIn K cX).isSome = true) (w3 : PySem.W.findIn K (.ref cX) "__class__" = some (some (.builtin "object.__class__"))) (w4 : PySem.W.specialIn K (.builtin "object.__class__") "__get__" = some (some (.builtin "getset_descriptor.__get__"))) (w5 : PySem.W.takesIn K (.builtin "object.__class__") = some true) (w6 : PySem.W.mroIn K cX (.type "object") = some true) :
    ∃ fd : FuncData, (∀ (s : Shared) (v : Value), BindsTo s fd ⟨[v], []⟩ [("_law_script", v)]) ∧ ∀ base : Heap, K.In base → base.Ns mainGlobals mg → FnOk l.prog w K mg base CX0 85 fa fd ["_law_script"] (spLaw K) := by
  have e := hfa.symm.trans (PySem.W.mg_of X G a27)
  cases e
  have F_is_whole : Fd K mg "is_whole" s_is_whole f0 := fd_mk X G a0 l0 c0 k0
  have F_is_knot : Fd K mg "is_knot" s_is_knot f1 := fd_mk X G a1 l1 c1 k1
  have F_lies_between : Fd K mg "lies_between" s_lies_between f2 := fd_mk X G a2 l2 c2 k2
  have F_is_tree : Fd K mg "is_tree" s_is_tree f3 := fd_mk X G a3 l3 c3 k3
  have F_keys_of : Fd K mg "keys_of" s_keys_of f4 := fd_mk X G a4 l4 c4 k4
  have F_show_tree : Fd K mg "show_tree" s_show_tree f5 := fd_mk X G a5 l5 c5 k5
  have F_show_keys : Fd K mg "show_keys" s_show_keys f6 := fd_mk X G a6 l6 c6 k6
  have F_show_layout : Fd K mg "show_layout" s_show_layout f7 := fd_mk X G a7 l7 c7 k7
  have F_has_figures_alone : Fd K mg "has_figures_alone" s_has_figures_alone f8 := fd_mk X G a8 l8 c8 k8
  have F_read_number : Fd K mg "read_number" s_read_number f9 := fd_mk X G a9 l9 c9 k9
  have F_behind : Fd K mg "behind" s_behind f10 := fd_mk X G a10 l10 c10 k10
  have F_tree_from : Fd K mg "tree_from" s_tree_from f11 := fd_mk X G a11 l11 c11 k11
  have F_read_tree : Fd K mg "read_tree" s_read_tree f12 := fd_mk X G a12 l12 c12 k12
  have F_read_page : Fd K mg "read_page" s_read_page f13 := fd_mk X G a13 l13 c13 k13
  have F_read_layout : Fd K mg "read_layout" s_read_layout f14 := fd_mk X G a14 l14 c14 k14
  have F_law_pen : Fd K mg "_law_pen" s_law_pen f15 := fd_mk X G a15 l15 c15 k15
  have F_law_draw : Fd K mg "_law_draw" s_law_draw f16 := fd_mk X G a16 l16 c16 k16
  have F_law_tree_text : Fd K mg "_law_tree_text" s_law_tree_text f17 := fd_mk X G a17 l17 c17 k17
  have F_law_layout_text : Fd K mg "_law_layout_text" s_law_layout_text f18 := fd_mk X G a18 l18 c18 k18
  have F_law_word : Fd K mg "_law_word" s_law_word f19 := fd_mk X G a19 l19 c19 k19
  have F_law_bent : Fd K mg "_law_bent" s_law_bent f20 := fd_mk X G a20 l20 c20 k20
  have F_law_is_key : Fd K mg "_law_is_key" s_law_is_key f21 := fd_mk X G a21 l21 c21 k21
  have F_law_items : Fd K mg "_law_items" s_law_items f22 := fd_mk X G a22 l22 c22 k22
  have F_law_tree_of : Fd K mg "_law_tree_of" s_law_tree_of f23 := fd_mk X G a23 l23 c23 k23
  have F_law_layout_of : Fd K mg "_law_layout_of" s_law_layout_of f24 := fd_mk X G a24 l24 c24 k24
  have F_law_refused : Fd K mg "_law_refused" s_law_refused f25 := fd_mk X G a25 l25 c25 k25
  have F_law_right : Fd K mg "_law_right" s_law_right f26 := fd_mk X G a26 l26 c26 k26
  have T : Tx K mg := ⟨PySem.W.mg_none_of X G z_ValueError, PySem.W.mg_none_of X G z_all, PySem.W.mg_none_of X G z_bool, PySem.W.mg_none_of X G z_int, PySem.W.mg_none_of X G z_isinstance, PySem.W.mg_none_of X G z_len, PySem.W.mg_none_of X G z_list, PySem.W.mg_none_of X G z_max, PySem.W.mg_none_of X G z_min, PySem.W.mg_none_of X G z_range, PySem.W.mg_none_of X G z_set, PySem.W.mg_none_of X G z_sorted, PySem.W.mg_none_of X G z_str, PySem.W.mg_none_of X G z_sum, PySem.W.mg_none_of X G z_tuple, ⟨_, PySem.W.mg_of X G z_FIGURES⟩, ⟨_, PySem.W.mg_of X G z_MOST_FIGURES⟩, ⟨_, PySem.W.mg_of X G z_MOST_KEYS⟩, ⟨_, PySem.W.mg_of X G z_MOST_PAGES⟩⟩
  refine ⟨PySem.W.fnOf "law" "law" (defArgs s_law) (defBody s_law) (defScope s_law) .none kV27 dc27 pm27 an27 cd27 ct27, fun s v => .of_eq rfl, fun base _ _ => ?_⟩
  have mgo : ∀ {x : Str} {C : Addr}, PySem.W.nsIn K mainGlobals x = some (some (.ref C)) → mg x = some (.ref C) := fun e => PySem.W.mg_of X G e
  have RE : Er K mg cL cX cF cM cW cT cN cH := ⟨⟨mgo xL, oL⟩, ⟨mgo xX, oX⟩, mgo xF, mgo xM, mgo xW, mgo xT, mgo xN, mgo xH, ex, y1, y2, y3, ⟨w1, w7, w8, w2, w3, w4, w5, w6⟩⟩
  have C_draw : Cal l.prog w K mg base CX0 1 "_law_draw" spDraw := ok_draw F_law_draw T
  have C_num := ok_num (P := l.prog) (w := w) (base := base) F_read_number T RE.eX (ok_fig F_has_figures_alone T)
  have C_rt := ok_rt F_read_tree T RE.eX (ok_tf F_tree_from T (ok_beh F_behind T RE.eX) C_num 61) (ok_ist F_is_tree T (ok_lies F_lies_between T (ok_knot F_is_knot T (ok_whole F_is_whole T)) 70) (ok_kof F_keys_of T 80))
  have C_ly := ok_ly F_read_layout T RE.eX (ok_pg F_read_page T C_num)
  have C_isk : Cal l.prog w K mg base CX0 1 "_law_is_key" spIsK := ok_isk F_law_is_key T
  have C_ref := ok_ref F_law_refused T RE C_ly C_rt
  have C_ri := ok_right F_law_right T (ok_tof F_law_tree_of T C_isk (ok_items F_law_items T)) C_ref C_rt (ok_show F_show_tree T 61) (ok_lof F_law_layout_of T C_isk) C_ly (ok_shl F_show_layout T (ok_shk F_show_keys T))
  exact ok_law (fun_mk l27 c27 k27) T (ok_pen F_law_pen T) C_draw (ok_tt F_law_tree_text T C_draw) (ok_lt F_law_layout_text T C_draw) C_ri (ok_bent F_law_bent T C_draw (ok_word F_law_word T C_draw)) C_ref
theorem walk {l : PySem.W.OpenLaw} {q : Program} {loose : List Str} {XP : (Str → Option Value) → Heap → Prop} {YP : World → Heap → Prop} {d : DefRec} {K : Params → PySem.W.Frag} (hn : l.most = some 63) (hdf : d.params.defaults = [])
    (hY : ∀ (w : World) (h : Heap), YP w h → (K w.params).In h)
    (F : ∀ (w : World) (mg : Str → Option Value) (fa : Addr) (h : Heap), (K w.params).In h → h.Ns mainGlobals mg → mg d.name = some (.ref fa) →
      ∃ fd : FuncData, (∀ (s : Shared) (u : Value), BindsTo s fd ⟨[u], []⟩ [("_law_script", u)]) ∧ ∀ base : Heap, (K w.params).In base → base.Ns mainGlobals mg → FnOk l.prog w (K w.params) mg base CX0 85 fa fd ["_law_script"] (spLaw (K w.params))) :
    PySem.W.WalkO q loose XP YP l.row.toRowW d [] (fun f vs => PySem.call f vs) :=
  L2.walk_of (n := 63) (k := 85) (x := "_law_script") (CX := fun _ => CX0) (sp := fun w => spLaw (K w.params)) hn (by decide) hdf ⟨rfl, by decide, by decide, rfl⟩ hY F (fun _ _ a ns hl _ hS => ⟨a, ns, rfl, hS, hl, fun _ => rfl⟩) fun _ _ _ _ _ z => z
end K48Z
open PySem PySem.W PyProof.Rows
set_option maxRecDepth 100000 in
set_option maxHeartbeats 0 in
theorem PySem.Challenge.cw_leafpages_k48_texts_refused_holds : PySem.Challenge.rw_leafpages_k48_texts_refused.Holds := by
  w_on; o_law; k_head; (case hw => w_witness2)
  k_fill
  refine K48Z.walk (l := PySem.Challenge.rw_leafpages_k48_texts_refused) rfl rfl (fun w h Y => PySem.W.kIn_of Y) ?F
  case F =>
    intro w mg fa h KX G hmg
    refine' K48Z.all_mk KX G hmg ?a0 ?l0 ?c0 ?k0 ?a1 ?l1 ?c1 ?k1 ?a2 ?l2 ?c2 ?k2 ?a3 ?l3 ?c3 ?k3 ?a4 ?l4 ?c4 ?k4 ?a5 ?l5 ?c5 ?k5 ?a6 ?l6 ?c6 ?k6 ?a7 ?l7 ?c7 ?k7 ?a8 ?l8 ?c8 ?k8 ?a9 ?l9 ?c9 ?k9 ?a10 ?l10 ?c10 ?k10 ?a11 ?l11 ?c11 ?k11 ?a12 ?l12 ?c12 ?k12 ?a13 ?l13 ?c13 ?k13 ?a14 ?l14 ?c14 ?k14 ?a15 ?l15 ?c15 ?k15 ?a16 ?l16 ?c16 ?k16 ?a17 ?l17 ?c17 ?k17 ?a18 ?l18 ?c18 ?k18 ?a19 ?l19 ?c19 ?k19 ?a20 ?l20 ?c20 ?k20 ?a21 ?l21 ?c21 ?k21 ?a22 ?l22 ?c22 ?k22 ?a23 ?l23 ?c23 ?k23 ?a24 ?l24 ?c24 ?k24 ?a25 ?l25 ?c25 ?k25 ?a26 ?l26 ?c26 ?k26 ?a27 ?l27 ?c27 ?k27 ?z_ValueError ?z_all ?z_bool ?z_int ?z_isinstance ?z_len ?z_list ?z_max ?z_min ?z_range ?z_set ?z_sorted ?z_str ?z_sum ?z_tuple ?z_FIGURES ?z_MOST_FIGURES ?z_MOST_KEYS ?z_MOST_PAGES ?xL ?xX ?xF ?xM ?xW ?xT ?xN ?xH ?oL ?oX ?ex ?y1 ?y2 ?y3 ?w1 ?w7 ?w8 ?w2 ?w3 ?w4 ?w5 ?w6
    (case a0 => k_is)
    (case l0 => k_is)
    (case c0 => k_is)
    (case k0 => k_is)
    (case a1 => k_is)
    (case l1 => k_is)
    (case c1 => k_is)
    (case k1 => k_is)
    (case a2 => k_is)
    (case l2 => k_is)
    (case c2 => k_is)
    (case k2 => k_is)
    (case a3 => k_is)
    (case l3 => k_is)
    (case c3 => k_is)
    (case k3 => k_is)
    (case a4 => k_is)
    (case l4 => k_is)
    (case c4 => k_is)
    (case k4 => k_is)
    (case a5 => k_is)
    (case l5 => k_is)
    (case c5 => k_is)
    (case k5 => k_is)
    (case a6 => k_is)
    (case l6 => k_is)
    (case c6 => k_is)
    (case k6 => k_is)
    (case a7 => k_is)
    (case l7 => k_is)
    (case c7 => k_is)
    (case k7 => k_is)
    (case a8 => k_is)
    (case l8 => k_is)
    (case c8 => k_is)
    (case k8 => k_is)
    (case a9 => k_is)
    (case l9 => k_is)
    (case c9 => k_is)
    (case k9 => k_is)
    (case a10 => k_is)
    (case l10 => k_is)
    (case c10 => k_is)
    (case k10 => k_is)
    (case a11 => k_is)
    (case l11 => k_is)
    (case c11 => k_is)
    (case k11 => k_is)
    (case a12 => k_is)
    (case l12 => k_is)
    (case c12 => k_is)
    (case k12 => k_is)
    (case a13 => k_is)
    (case l13 => k_is)
    (case c13 => k_is)
    (case k13 => k_is)
    (case a14 => k_is)
    (case l14 => k_is)
    (case c14 => k_is)
    (case k14 => k_is)
    (case a15 => k_is)
    (case l15 => k_is)
    (case c15 => k_is)
    (case k15 => k_is)
    (case a16 => k_is)
    (case l16 => k_is)
    (case c16 => k_is)
    (case k16 => k_is)
    (case a17 => k_is)
    (case l17 => k_is)
    (case c17 => k_is)
    (case k17 => k_is)
    (case a18 => k_is)
    (case l18 => k_is)
    (case c18 => k_is)
    (case k18 => k_is)
    (case a19 => k_is)
    (case l19 => k_is)
    (case c19 => k_is)
    (case k19 => k_is)
    (case a20 => k_is)
    (case l20 => k_is)
    (case c20 => k_is)
    (case k20 => k_is)
    (case a21 => k_is)
    (case l21 => k_is)
    (case c21 => k_is)
    (case k21 => k_is)
    (case a22 => k_is)
    (case l22 => k_is)
    (case c22 => k_is)
    (case k22 => k_is)
    (case a23 => k_is)
    (case l23 => k_is)
    (case c23 => k_is)
    (case k23 => k_is)
    (case a24 => k_is)
    (case l24 => k_is)
    (case c24 => k_is)
    (case k24 => k_is)
    (case a25 => k_is)
    (case l25 => k_is)
    (case c25 => k_is)
    (case k25 => k_is)
    (case a26 => k_is)
    (case l26 => k_is)
    (case c26 => k_is)
    (case k26 => k_is)
    (case a27 => k_is)
    (case l27 => k_is)
    (case c27 => k_is)
    (case k27 => k_is)
    (case z_ValueError => k_is)
    (case z_all => k_is)
    (case z_bool => k_is)
    (case z_int => k_is)
    (case z_isinstance => k_is)
    (case z_len => k_is)
    (case z_list => k_is)
    (case z_max => k_is)
    (case z_min => k_is)
    (case z_range => k_is)
    (case z_set => k_is)
    (case z_sorted => k_is)
    (case z_str => k_is)
    (case z_sum => k_is)
    (case z_tuple => k_is)
    (case z_FIGURES => k_is)
    (case z_MOST_FIGURES => k_is)
    (case z_MOST_KEYS => k_is)
    (case z_MOST_PAGES => k_is)
    (case xL => k_is)
    (case xN => k_is)
    (case xF => k_is)
    (case xM => k_is)
    (case xW => k_is)
    (case xX => k_is)
    (case xT => k_is)
    (case xH => k_is)
    (case oL => kernel_rfl)
    (case oX => kernel_rfl)
    (case ex => kernel_rfl)
    (case y1 => kernel_rfl)
    (case y2 => kernel_rfl)
    (case y3 => kernel_rfl)
    (case w1 => kernel_rfl)
    (case w7 => kernel_rfl)
    (case w8 => kernel_rfl)
    (case w2 => kernel_rfl)
    (case w3 => kernel_rfl)
    (case w4 => kernel_rfl)
    (case w5 => kernel_rfl)
    (case w6 => kernel_rfl)
