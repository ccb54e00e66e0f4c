import PyProof.Rows.All
import Wide.All
import OpenK.AllK
import Wide.FinOn
import PyProof.NeKinds
import Lean
import PyProof.EqAt
import PyProof.EqKinds
import PyProof.TupleCall
import PyProof.Rows.SumAny
import PyProof.Rows.SortWalk
import PyProof.WalksEnum
import PyProof.AttrMissHeap
import KE.KDictOf
import PyProof.DictWalks
import KE.KRevIter
import PyProof.Rows.SeqMore2
import Wide.Seal
import KE.KDictList
import PyProof.ZipIter
import PyProof.Rows.CallKwBuiltin
import PyProof.WalkInts
import PyProof.DictValues
import KE.KSortTup
import PyProof.TupleIter
import PyProof.ListMulRoad
import PyProof.TupleOps
import PyProof.FactsAll.tuple
import PySem.Challenge.RW_leafpages_k18_least_costs_told
set_option Elab.async false
set_option linter.all false
set_option maxRecDepth 100000
set_option maxHeartbeats 4000000
namespace L3
open PySem
theorem lcons {P : List Value → Prop} {n : Nat} (h : ∀ (a : Value) (us : List Value), us.length = n → P (a :: us)) : ∀ us : List Value, us.length = n + 1 → P us := fun us hl => by
  cases us with
  | nil => cases hl
  | cons a us => exact h a us (Nat.succ.inj hl)
theorem lnone {P : List Value → Prop} (h : P []) : ∀ us : List Value, us.length = 0 → P us := fun us hl => by
  cases us with
  | nil => exact h
  | cons a us => cases hl
theorem bind1 {fd : FuncData} {s : Str} (h : ∀ a : Value, bindArgs fd ⟨[a], []⟩ = pure ([s].zip [a])) : ∀ us : List Value, us.length = 1 → bindArgs fd ⟨us, []⟩ = pure ([s].zip us) :=
  lcons (P := fun us => bindArgs fd ⟨us, []⟩ = pure ([s].zip (us))) fun a => lnone (P := fun us => bindArgs fd ⟨a :: us, []⟩ = pure ([s].zip (a :: us))) (h a)
theorem bind2 {fd : FuncData} {s t : Str} (h : ∀ a b : Value, bindArgs fd ⟨[a, b], []⟩ = pure ([s, t].zip [a, b])) : ∀ us : List Value, us.length = 2 → bindArgs fd ⟨us, []⟩ = pure ([s, t].zip us) :=
  lcons (P := fun us => bindArgs fd ⟨us, []⟩ = pure ([s, t].zip (us))) fun a => lcons (P := fun us => bindArgs fd ⟨a :: us, []⟩ = pure ([s, t].zip (a :: us))) fun b => lnone (P := fun us => bindArgs fd ⟨a :: b :: us, []⟩ = pure ([s, t].zip (a :: b :: us))) (h a b)
theorem bind3 {fd : FuncData} {s t u : Str} (h : ∀ a b c : Value, bindArgs fd ⟨[a, b, c], []⟩ = pure ([s, t, u].zip [a, b, c])) : ∀ us : List Value, us.length = 3 → bindArgs fd ⟨us, []⟩ = pure ([s, t, u].zip us) :=
  lcons (P := fun us => bindArgs fd ⟨us, []⟩ = pure ([s, t, u].zip (us))) fun a => lcons (P := fun us => bindArgs fd ⟨a :: us, []⟩ = pure ([s, t, u].zip (a :: us))) fun b => lcons (P := fun us => bindArgs fd ⟨a :: b :: us, []⟩ = pure ([s, t, u].zip (a :: b :: us))) fun c => lnone (P := fun us => bindArgs fd ⟨a :: b :: c :: us, []⟩ = pure ([s, t, u].zip (a :: b :: c :: us))) (h a b c)
theorem bind4 {fd : FuncData} {s t u v : Str} (h : ∀ a b c d : Value, bindArgs fd ⟨[a, b, c, d], []⟩ = pure ([s, t, u, v].zip [a, b, c, d])) : ∀ us : List Value, us.length = 4 → bindArgs fd ⟨us, []⟩ = pure ([s, t, u, v].zip us) :=
  lcons (P := fun us => bindArgs fd ⟨us, []⟩ = pure ([s, t, u, v].zip (us))) fun a => lcons (P := fun us => bindArgs fd ⟨a :: us, []⟩ = pure ([s, t, u, v].zip (a :: us))) fun b => lcons (P := fun us => bindArgs fd ⟨a :: b :: us, []⟩ = pure ([s, t, u, v].zip (a :: b :: us))) fun c => lcons (P := fun us => bindArgs fd ⟨a :: b :: c :: us, []⟩ = pure ([s, t, u, v].zip (a :: b :: c :: us))) fun d => lnone (P := fun us => bindArgs fd ⟨a :: b :: c :: d :: us, []⟩ = pure ([s, t, u, v].zip (a :: b :: c :: d :: us))) (h a b c d)
theorem bind5 {fd : FuncData} {s t u v w : Str} (h : ∀ a b c d e : Value, bindArgs fd ⟨[a, b, c, d, e], []⟩ = pure ([s, t, u, v, w].zip [a, b, c, d, e])) : ∀ us : List Value, us.length = 5 → bindArgs fd ⟨us, []⟩ = pure ([s, t, u, v, w].zip us) :=
  lcons (P := fun us => bindArgs fd ⟨us, []⟩ = pure ([s, t, u, v, w].zip (us))) fun a => lcons (P := fun us => bindArgs fd ⟨a :: us, []⟩ = pure ([s, t, u, v, w].zip (a :: us))) fun b => lcons (P := fun us => bindArgs fd ⟨a :: b :: us, []⟩ = pure ([s, t, u, v, w].zip (a :: b :: us))) fun c => lcons (P := fun us => bindArgs fd ⟨a :: b :: c :: us, []⟩ = pure ([s, t, u, v, w].zip (a :: b :: c :: us))) fun d => lcons (P := fun us => bindArgs fd ⟨a :: b :: c :: d :: us, []⟩ = pure ([s, t, u, v, w].zip (a :: b :: c :: d :: us))) fun e => lnone (P := fun us => bindArgs fd ⟨a :: b :: c :: d :: e :: us, []⟩ = pure ([s, t, u, v, w].zip (a :: b :: c :: d :: e :: us))) (h a b c d e)
end L3
namespace L2
open PySem PySem.Spec PyProof.Rows
abbrev Key := Sum Int Str
def keyIs : Key → Value → Bool
  | .inl k, v => Value.isInt k v
  | .inr x, v => Value.isStrOf x v
def keyH (w : World) : Key → Int
  | .inl k => hashInt k
  | .inr x => hashStr w x
theorem keyIs_shape : ∀ {k : Key} {v : Value}, keyIs k v = true → (∃ i t, k = Sum.inl i ∧ v = Value.int i t) ∨ (∃ x t, k = Sum.inr x ∧ v = Value.str x t)
  | .inl i, v, h => by
    obtain ⟨t, e⟩ := Value.isInt_shape (k := i) (v := v) h
    exact .inl ⟨i, t, rfl, e⟩
  | .inr x, v, h => by
    obtain ⟨t, e⟩ := Value.isStrOf_shape (x := x) (v := v) h
    exact .inr ⟨x, t, rfl, e⟩
theorem keyIs_int (i : Int) (t : Tok) : keyIs (.inl i) (.int i t) = true := by simp [keyIs, Value.isInt]
theorem keyIs_str (x : Str) (t : Tok) : keyIs (.inr x) (.str x t) = true := by simp [keyIs, Value.isStrOf]
theorem key_ll (a b : Int) : decide ((Sum.inl a : Key) = Sum.inl b) = (a == b) := by
  by_cases e : a = b
  · subst e; simp
  · have h : ¬ (Sum.inl a : Key) = Sum.inl b := fun q => e (Sum.inl.inj q)
    rw [decide_eq_false h]
    exact (beq_eq_false_iff_ne.mpr e).symm
theorem key_rr (a b : Str) : decide ((Sum.inr a : Key) = Sum.inr b) = decide (a = b) := by
  by_cases e : a = b
  · subst e; simp
  · have h : ¬ (Sum.inr a : Key) = Sum.inr b := fun q => e (Sum.inr.inj q)
    rw [decide_eq_false h, decide_eq_false e]
theorem key_lr (a : Int) (b : Str) : decide ((Sum.inl a : Key) = Sum.inr b) = false := decide_eq_false (fun q => nomatch q)
theorem key_rl (a : Str) (b : Int) : decide ((Sum.inr a : Key) = Sum.inl b) = false := decide_eq_false (fun q => nomatch q)
def mixKind (prog : Program) (w : World) : PySem.KeyKind prog w Key where
  is := keyIs
  hash := keyH w
  inj := fun v a b ha hb => by
    rcases keyIs_shape ha with ⟨i, t, rfl, rfl⟩ | ⟨x, t, rfl, rfl⟩
    · rcases keyIs_shape hb with ⟨j, u, rfl, e⟩ | ⟨y, u, rfl, e⟩
      · injection e with e1 _; rw [e1]
      · exact nomatch e
    · rcases keyIs_shape hb with ⟨j, u, rfl, e⟩ | ⟨y, u, rfl, e⟩
      · exact nomatch e
      · injection e with e1 _; rw [e1]
  byValue := fun k v h => by
    rcases keyIs_shape h with ⟨i, t, rfl, rfl⟩ | ⟨x, t, rfl, rfl⟩ <;> rfl
  pyHash := fun hv h => by
    rcases keyIs_shape hv with ⟨i, t, rfl, rfl⟩ | ⟨x, t, rfl, rfl⟩
    · exact wpAny_pyHash_int h
    · exact wpAny_pyHash_str h
  eqBool := fun hu hv h => by
    rcases keyIs_shape hu with ⟨i, t, rfl, rfl⟩ | ⟨x, t, rfl, rfl⟩
    · rcases keyIs_shape hv with ⟨j, u, rfl, rfl⟩ | ⟨y, u, rfl, rfl⟩
      · rw [key_ll] at h; exact wpAny_eqBool_int h
      · rw [key_lr] at h; exact SeqAt.EqAt.int_str i t y u _ _ _ _ h
    · rcases keyIs_shape hv with ⟨j, u, rfl, rfl⟩ | ⟨y, u, rfl, rfl⟩
      · rw [key_rl] at h; exact SeqAt.EqAt.str_int x t j u _ _ _ _ h
      · rw [key_rr] at h; exact wpAny_eqBool_str h
  «strs» := fun k x t v h => by
    rcases keyIs_shape h with ⟨i, u, rfl, e⟩ | ⟨y, u, rfl, e⟩
    · exact nomatch e
    · injection e with e1 _
      subst e1
      cases v <;> rfl
theorem mixKind_int (prog : Program) (w : World) (i : Int) (t : Tok) : (mixKind prog w).is (.inl i) (.int i t) = true := keyIs_int i t
theorem mixKind_str (prog : Program) (w : World) (x : Str) (t : Tok) : (mixKind prog w).is (.inr x) (.str x t) = true := keyIs_str x t
end L2
namespace L2
open PySem PySem.Spec PyProof.Rows
inductive V where
  | non | bl (b : Bool) | int (i : Int) | str (x : Str) | byt (b : Array UInt8) | flt (b : UInt64) | ref (a : Addr) | ty (n : String)
  deriving DecidableEq
def RelV : V → Value → Prop
  | .non, u => u = Value.none
  | .bl b, u => u = Value.bool b
  | .int i, u => ∃ t, u = Value.int i t
  | .str x, u => ∃ t, u = Value.str x t
  | .byt b, u => ∃ t, u = Value.bytes b t
  | .flt b, u => ∃ t, u = Value.float b t
  | .ref a, u => u = Value.ref a
  | .ty n, u => u = Value.type n
abbrev Vals : List V → List Value → Prop := Paired RelV
theorem Vals.length {xs : List V} {us : List Value} (r : Vals xs us) : xs.length = us.length := Paired.length r
theorem Vals.get : ∀ {xs : List V} {us : List Value} {i : Nat} {x : V}, Vals xs us → xs[i]? = some x → ∃ u, us[i]? = some u ∧ RelV x u
  | _, _, _, _, .nil, e => by simp at e
  | _, _, 0, _, .cons r _, e => by simp at e; subst e; exact ⟨_, rfl, r⟩
  | _, _, i + 1, x, .cons _ t, e => by
    obtain ⟨u, h1, h2⟩ := Vals.get (i := i) (x := x) t (by simpa using e)
    exact ⟨u, by simpa using h1, h2⟩
theorem Vals.set {x : V} {u : Value} (r : RelV x u) : ∀ {xs : List V} {us : List Value} (i : Nat), Vals xs us → Vals (xs.set i x) (us.set i u)
  | _, _, _, .nil => .nil
  | _, _, 0, .cons _ t => .cons r t
  | _, _, i + 1, .cons q t => .cons q (Vals.set r i t)
theorem Vals.append : ∀ {xs ys : List V} {us ws : List Value}, Vals xs us → Vals ys ws → Vals (xs ++ ys) (us ++ ws)
  | _, _, _, _, .nil, s => s
  | _, _, _, _, .cons r t, s => .cons r (Vals.append t s)
theorem Vals.take : ∀ {xs : List V} {us : List Value} (n : Nat), Vals xs us → Vals (xs.take n) (us.take n)
  | _, _, 0, _ => .nil
  | _, _, _ + 1, .nil => .nil
  | _, _, n + 1, .cons r t => .cons r (Vals.take n t)
theorem Vals.drop : ∀ {xs : List V} {us : List Value} (n : Nat), Vals xs us → Vals (xs.drop n) (us.drop n)
  | _, _, 0, r => r
  | _, _, _ + 1, .nil => .nil
  | _, _, n + 1, .cons _ t => Vals.drop n t
def RelO : Option V → Option Value → Prop
  | some v, some u => RelV v u
  | none, none => True
  | _, _ => False
def KV {κ : Type} : List (κ × V) → List (κ × Value) → Prop := Paired fun (p : κ × V) (q : κ × Value) => p.1 = q.1 ∧ RelV p.2 q.2
def kV : Key → V
  | .inl i => .int i
  | .inr x => .str x
inductive HO where
  /-- a list -/
  | lst (xs : List V)
  /-- a tuple (never changes) -/
  | tup (xs : List V)
  /-- a dict whose keys are ints and texts; one whose keys are tuples of ints and texts (the empty one is both) -/
  | dK (kvs : List (Key × V)) | dT (kvs : List (List Key × V))
  /-- a set of ints: its members, its size -/
  | set (S : Int → Bool) (n : Nat)
  /-- an instance of the class at C, its dict at dx, its attributes -/
  | ins (C dx : Addr) (fs : List (Str × V))
  /-- the dict of the instance at x -/
  | own (x : Addr)
  /-- the dict of an exception -/
  | xd (fs : List (Str × V))
  /-- a bound method, f of x -/
  | met (f x : Addr)
  /-- a range object lo, lo + 1, .. below hi -/
  | rng (lo hi : Int)
  /-- a thing that is known to the object (the script; a dict while a loop walks it): read, never written while it is so -/
  | frz (o : Obj) (u : HO)
  /-- a code object's table -/
  | tbl (ps : Array Value)
  /-- any other thing, by what is true of its one object (a def of one's own: SetO a S n := HO.ext fun h => ..) -/
  | ext (φ : Heap → Prop)
abbrev Hp := Addr → Option HO
def upd (H : Hp) (a : Addr) (o : HO) : Hp := fun b => if b = a then some o else H b
theorem upd_same {H : Hp} {a : Addr} {o : HO} : upd H a o a = some o := by unfold upd; rw [if_pos rfl]
theorem upd_ne {H : Hp} {a b : Addr} {o : HO} (h : b ≠ a) : upd H a o b = H b := by unfold upd; rw [if_neg h]
theorem ne_of {H : Hp} {a b : Addr} {o u : HO} (h : H a = some o) (h' : H b = some u) (d : o ≠ u) : a ≠ b := by
  intro e; subst e; rw [h] at h'; exact d (Option.some.inj h')
theorem ne_of_none {H : Hp} {a b : Addr} {o : HO} (h : H a = some o) (h' : H b = none) : a ≠ b := by
  intro e; subst e; rw [h] at h'; cases h'
section
variable (P : Program) (w : World)
def ObjOk (H : Hp) (h : Heap) (a : Addr) : HO → Prop
  | .lst xs => xs.length ≤ sizeLine ∧ ∃ (its : List Value) (n : Nat), Vals xs its ∧ h.get? a = some { cls := .type "list", data := .seq its.toArray n }
  | .tup xs => xs.length ≤ sizeLine ∧ ∃ its : List Value, Vals xs its ∧ IsTup h a its.toArray
  | .dK kvs => kvs.length ≤ sizeLine ∧ (a == sysModules) = false ∧ ∃ vs, KV kvs vs ∧ h.DictOf (mixKind P w) a vs
  | .dT kvs => kvs.length ≤ sizeLine ∧ (a == sysModules) = false ∧ ∃ xs : List (List Key × Addr × Value),
      Paired (fun (p : List Key × V) (q : List Key × Addr × Value) => p.1 = q.1 ∧ H q.2.1 = some (.tup (p.1.map kV)) ∧ RelV p.2 q.2.2) kvs xs ∧
      ∃ o es ep, h.get? a = some o ∧ o.ExactDict ∧ o.data = .dict es ep ∧ es.toList = xs.map (entryOfKey (tupleKind (mixKind P w))) ∧ (xs.map (·.1)).Nodup
  | .set S n => h.SetOf (intKind P w) a S n
  | .ins C dx fs => H dx = some (.own a) ∧ fs.length ≤ 1000 ∧ dx ≠ a ∧ h.get? a = some (PySem.W.instObj C dx) ∧
      ∃ mA, h.Ns1 dx mA ∧ (∀ f, RelO (fs.lookup f) (mA f)) ∧ PySem.Within mA (fs.map (·.1))
  | .own _ => ∃ o, h.get? a = some o
  | .xd fs => ∃ mA, h.Ns1 a mA ∧ ∀ f, RelO (fs.lookup f) (mA f)
  | .rng lo hi => ∃ t u v, h.get? a = some { cls := .type "range", data := .fields #[.int lo t, .int hi u, .int 1 v] }
  | .frz o u => h.get? a = some o ∧ ObjOk H h a u
  | .tbl ps => h.get? a = some { cls := .none, data := .fields ps }
  | .met f x => h.get? a = some (PySem.W.methodObj (.ref f) (.ref x))
  | .ext φ => φ h ∧ (∃ o, h.get? a = some o) ∧ ∀ h1 h2 : Heap, φ h1 → (∀ o, h1.get? a = some o → h2.get? a = some o) → φ h2
def HOk (H : Hp) (h : Heap) : Prop := ∀ a o, H a = some o → ObjOk P w H h a o
end
section
variable {P : Program} {w : World} {H H' : Hp} {h h' : Heap} {a : Addr} {o : HO}
theorem ObjOk.lt (x : ObjOk P w H h a o) : a < h.objs.size := by
  cases o with
  | lst xs => obtain ⟨_, _, _, _, e⟩ := x; exact Heap.lt_size e
  | tup xs => obtain ⟨_, _, _, p⟩ := x; exact p.lt
  | dK kvs => obtain ⟨_, _, _, _, o, _, _, e, _⟩ := x; exact Heap.lt_size e
  | dT kvs => obtain ⟨_, _, _, _, o, _, _, e, _⟩ := x; exact Heap.lt_size e
  | set S n => obtain ⟨o, _, _, _, e, _⟩ := x; exact Heap.lt_size e
  | ins C dx fs => obtain ⟨_, _, _, e, _⟩ := x; exact Heap.lt_size e
  | own y => obtain ⟨_, e⟩ := x; exact Heap.lt_size e
  | xd fs => obtain ⟨_, ⟨_, _, _, e, _⟩, _⟩ := x; exact Heap.lt_size e
  | rng lo hi => obtain ⟨_, _, _, e⟩ := x; exact Heap.lt_size e
  | frz ob u => obtain ⟨e, _⟩ := x; exact Heap.lt_size e
  | tbl ps => exact Heap.lt_size (show h.get? a = some _ from x)
  | met f y => exact Heap.lt_size (show h.get? a = some _ from x)
  | ext φ => obtain ⟨_, ⟨_, e⟩, _⟩ := x; exact Heap.lt_size e
theorem Paired.mapP {α β : Type} {F G : α → β → Prop} : ∀ {l₁ : List α} {l₂ : List β}, Paired F l₁ l₂ → (∀ a b, F a b → G a b) → Paired G l₁ l₂
  | _, _, .nil, _ => .nil
  | _, _, .cons r t, f => .cons (f _ _ r) (Paired.mapP t f)
theorem ObjOk.stay (x : ObjOk P w H h a o) (k : ∀ b u, (b = a ∨ H b = some (.own a)) → h.get? b = some u → h'.get? b = some u)
    (ho : ∀ b, H b = some (.own a) → H' b = some (.own a)) (ht : ∀ b xs, H b = some (.tup xs) → H' b = some (.tup xs)) : ObjOk P w H' h' a o := by
  induction o with
  | lst xs => obtain ⟨z, its, n, r, e⟩ := x; exact ⟨z, its, n, r, k _ _ (.inl rfl) e⟩
  | tup xs => obtain ⟨z, its, r, ob, e, c⟩ := x; exact ⟨z, its, r, ob, k _ _ (.inl rfl) e, c⟩
  | dK kvs => obtain ⟨z, y, vs, r, ob, es, ep, e, c⟩ := x; exact ⟨z, y, vs, r, ob, es, ep, k _ _ (.inl rfl) e, c⟩
  | dT kvs =>
    obtain ⟨z, y, xs, r, ob, es, ep, e, c⟩ := x
    exact ⟨z, y, xs, Paired.mapP r fun p q z => ⟨z.1, ht _ _ z.2.1, z.2.2⟩, ob, es, ep, k _ _ (.inl rfl) e, c⟩
  | set S n => obtain ⟨ob, es, ep, t, e, c⟩ := x; exact ⟨ob, es, ep, t, k _ _ (.inl rfl) e, c⟩
  | ins C dx fs =>
    obtain ⟨d, z, ne, e, mA, ⟨od, es, ep, e2, c⟩, r⟩ := x
    exact ⟨ho _ d, z, ne, k _ _ (.inl rfl) e, mA, ⟨od, es, ep, k _ _ (.inr d) e2, c⟩, r⟩
  | own y => obtain ⟨ob, e⟩ := x; exact ⟨ob, k _ _ (.inl rfl) e⟩
  | xd fs => obtain ⟨mA, ⟨od, es, ep, e, c⟩, r⟩ := x; exact ⟨mA, ⟨od, es, ep, k _ _ (.inl rfl) e, c⟩, r⟩
  | rng lo hi => obtain ⟨t, u, v, e⟩ := x; exact ⟨t, u, v, k _ _ (.inl rfl) e⟩
  | frz ob u ih => obtain ⟨e, q⟩ := x; exact ⟨k _ _ (.inl rfl) e, ih q⟩
  | tbl ps =>
    have e : h.get? a = some { cls := .none, data := .fields ps } := x
    show h'.get? a = some { cls := .none, data := .fields ps }
    exact k a _ (.inl rfl) e
  | met f y =>
    have e : h.get? a = some (PySem.W.methodObj (.ref f) (.ref y)) := x
    show h'.get? a = some (PySem.W.methodObj (.ref f) (.ref y))
    exact k a _ (.inl rfl) e
  | ext φ => obtain ⟨p, ⟨o, e⟩, st⟩ := x; exact ⟨st _ _ p fun o q => k _ _ (.inl rfl) q, ⟨o, k _ _ (.inl rfl) e⟩, st⟩
theorem HOk.lt (x : HOk P w H h) (e : H a = some o) : a < h.objs.size := (x a o e).lt
theorem HOk.fresh (x : HOk P w H h) (e : h.objs.size ≤ a) : H a = none := by
  cases q : H a with
  | none => rfl
  | some u => exact absurd (Nat.lt_of_lt_of_le (x.lt q) e) (Nat.lt_irrefl _)
theorem HOk.kept (x : HOk P w H h) (k : ∀ b u, h.get? b = some u → h'.get? b = some u) : HOk P w H h' := fun a o e =>
  (x a o e).stay (fun b u _ q => k b u q) (fun _ q => q) fun _ _ q => q
theorem HOk.laid (x : HOk P w H h) (k : ∀ b u, h.get? b = some u → h'.get? b = some u) (hp : h.objs.size ≤ a) (new : ObjOk P w (upd H a o) h' a o) : HOk P w (upd H a o) h' := fun b u e => by
  have hn := x.fresh hp
  by_cases hb : b = a
  · subst hb; rw [upd_same] at e; cases e; exact new
  · rw [upd_ne hb] at e
    exact (x b u e).stay (fun c v _ q => k c v q) (fun c q => by rw [upd_ne (ne_of_none q hn)]; exact q) fun c xs q => by rw [upd_ne (ne_of_none q hn)]; exact q
end
def Rd (H : Hp) (a : Addr) (u : HO) : Prop := H a = some u ∨ ∃ o, H a = some (.frz o u)
theorem Rd.ok {P : Program} {w : World} {H : Hp} {h : Heap} {a : Addr} {u : HO} (r : Rd H a u) (x : HOk P w H h) : ObjOk P w H h a u := by
  rcases r with r | ⟨o, r⟩
  · exact x a u r
  · obtain ⟨_, q⟩ := x a _ r
    exact q
def Mut : Option HO → Prop
  | some (.lst _) => True
  | some (.dK _) => True
  | some (.dT _) => True
  | some (.set _ _) => True
  | some (.ins _ _ _) => True
  | some (.ext _) => True
  | _ => False
section
variable {P : Program} {w : World} {H : Hp} {h h' : Heap} {x e : Addr} {o' : HO}
theorem HOk.write (ok : HOk P w H h) (mu : Mut (H x)) (he : e = x ∨ H e = some (.own x)) (k : ∀ b u, b ≠ e → h.get? b = some u → h'.get? b = some u) (heo : ∃ u, h'.get? e = some u)
    (new : ObjOk P w (upd H x o') h' x o') : HOk P w (upd H x o') h' := fun b u q => by
  have nown : ∀ c y, H c = some (.own y) → c ≠ x := fun c y r z => by subst z; rw [r] at mu; exact mu
  have ntup : ∀ c xs, H c = some (.tup xs) → c ≠ x := fun c xs r z => by subst z; rw [r] at mu; exact mu
  by_cases hb : b = x
  · subst hb; rw [upd_same] at q; cases q; exact new
  · rw [upd_ne hb] at q
    by_cases hbe : b = e
    · have q' : H b = some (.own x) := by
        rcases he with z | z
        · exact absurd (hbe.trans z) hb
        · rw [hbe]; exact z
      rw [q] at q'; cases q'
      obtain ⟨v, hv⟩ := heo
      exact ⟨v, by rw [hbe]; exact hv⟩
    · refine (ok b u q).stay (fun c v hc r => k c v ?_ r) (fun c r => by rw [upd_ne (nown c b r)]; exact r) fun c xs r => by rw [upd_ne (ntup c xs r)]; exact r
      rcases hc with rfl | hc
      · exact hbe
      · rintro rfl
        rcases he with z | z
        · exact nown c b hc z
        · rw [hc] at z; cases z; exact hb rfl
end
structure Un (fs ex : List Addr) (H H' : Hp) (h h' : Heap) : Prop where
  keep : ∀ b o, h.get? b = some o → H b = none → b ∉ fs → b ∉ ex → h'.get? b = some o
  slot : ∀ b o, h.get? b = some o → H b = none → b ∈ fs → b ∉ ex → ∃ sl, h'.get? b = some { o with slots := sl }
  free : ∀ b o, h.get? b = some o → H b = none → b ∉ ex → H' b = none
  there : ∀ b o, h.get? b = some o → b ∉ ex → ∃ o', h'.get? b = some o'
  tups : ∀ b xs, H b = some (.tup xs) → H' b = some (.tup xs)
  frzs : ∀ b o u, H b = some (.frz o u) → H' b = some (.frz o u)
  tbls : ∀ b ps, H b = some (.tbl ps) → ∃ more, H' b = some (.tbl (ps ++ more))
section
variable {fs fs' ex ex' : List Addr} {H H1 H2 : Hp} {h h1 h2 h' : Heap} {a x e : Addr} {o : HO}
theorem Un.any (u : Un fs ex H H1 h h1) {b : Addr} {ob : Obj} (q : h.get? b = some ob) (n : H b = none) (hx : b ∉ ex) : ∃ sl, h1.get? b = some { ob with slots := sl } := by
  by_cases hb : b ∈ fs
  · exact u.slot b ob q n hb hx
  · exact ⟨ob.slots, u.keep b ob q n hb hx⟩
theorem Un.trans (a : Un fs ex H H1 h h1) (b : Un fs ex H1 H2 h1 h2) : Un fs ex H H2 h h2 where
  keep := fun c ob q n hc hx => b.keep c ob (a.keep c ob q n hc hx) (a.free c ob q n hx) hc hx
  slot := fun c ob q n hc hx => by
    obtain ⟨sl, e1⟩ := a.slot c ob q n hc hx
    obtain ⟨sl', e2⟩ := b.slot c _ e1 (a.free c ob q n hx) hc hx
    exact ⟨sl', e2⟩
  free := fun c ob q n hx => by
    obtain ⟨o', e1⟩ := a.there c ob q hx
    exact b.free c o' e1 (a.free c ob q n hx) hx
  there := fun c ob q hx => by
    obtain ⟨o', e1⟩ := a.there c ob q hx
    exact b.there c o' e1 hx
  tups := fun c xs q => b.tups c xs (a.tups c xs q)
  frzs := fun c ob xs q => b.frzs c ob xs (a.frzs c ob xs q)
  tbls := fun c ps q => by
    obtain ⟨m1, e1⟩ := a.tbls c ps q
    obtain ⟨m2, e2⟩ := b.tbls c _ e1
    exact ⟨m1 ++ m2, by rw [e2, Array.append_assoc]⟩
theorem Un.kept (k : ∀ b u, h.get? b = some u → h'.get? b = some u) : Un fs ex H H h h' :=
  ⟨fun b ob q _ _ _ => k b ob q, fun b ob q _ _ _ => ⟨ob.slots, k b ob q⟩, fun _ _ _ n _ => n, fun b ob q _ => ⟨ob, k b ob q⟩, fun _ _ q => q, fun _ _ _ q => q, fun _ ps q => ⟨#[], by rw [q]; simp⟩⟩
theorem Un.refl : Un fs ex H H h h := Un.kept fun _ _ q => q
theorem Un.laid (k : ∀ b u, h.get? b = some u → h'.get? b = some u) (hp : h.objs.size ≤ a) (hn : H a = none) : Un fs ex H (upd H a o) h h' where
  keep := fun b u q _ _ _ => k b u q
  slot := fun b u q _ _ _ => ⟨u.slots, k b u q⟩
  free := fun b u q n _ => by rw [upd_ne (Nat.ne_of_lt (Nat.lt_of_lt_of_le (Heap.lt_size q) hp))]; exact n
  there := fun b u q _ => ⟨u, k b u q⟩
  tups := fun b xs q => by rw [upd_ne (ne_of_none q hn)]; exact q
  frzs := fun b u xs q => by rw [upd_ne (ne_of_none q hn)]; exact q
  tbls := fun b ps q => ⟨#[], by rw [upd_ne (ne_of_none q hn), q]; simp⟩
theorem Un.write (mu : Mut (H x)) (he : e = x ∨ H e = some (.own x)) (k : ∀ b u, b ≠ e → h.get? b = some u → h'.get? b = some u) (heo : ∃ u, h'.get? e = some u) : Un fs ex H (upd H x o) h h' := by
  have hx : ∀ b, H b = none → b ≠ x := fun b n z => by subst z; rw [n] at mu; exact mu
  have hb : ∀ b, H b = none → b ≠ e := fun b n z => by
    subst z
    rcases he with r | r
    · exact hx b n r
    · rw [n] at r; cases r
  have hm : ∀ b u, H b = some u → ¬ Mut (some u) → b ≠ x := fun b u q nm z => by subst z; rw [q] at mu; exact nm mu
  refine ⟨fun b u q n _ _ => k b u (hb b n) q, fun b u q n _ _ => ⟨u.slots, k b u (hb b n) q⟩, fun b u q n _ => by rw [upd_ne (hx b n)]; exact n, fun b u q _ => ?_,
    fun b xs q => by rw [upd_ne (hm b _ q fun z => z)]; exact q, fun b u xs q => by rw [upd_ne (hm b _ q fun z => z)]; exact q, fun b ps q => ⟨#[], by rw [upd_ne (hm b _ q fun z => z), q]; simp⟩⟩
  by_cases hbe : b = e
  · subst hbe; exact heo
  · exact ⟨u, k b u hbe q⟩
theorem Un.mono (u : Un fs ex H H1 h h1) (hs : ∀ b ∈ fs, b ∈ fs') (hx : ∀ b ∈ ex, b ∈ ex') : Un fs' ex' H H1 h h1 :=
  ⟨fun b ob q n hb he => u.keep b ob q n (fun z => hb (hs b z)) fun z => he (hx b z), fun _ _ q n _ he => u.any q n fun z => he (hx _ z), fun b ob q n he => u.free b ob q n fun z => he (hx b z), fun b ob q he => u.there b ob q fun z => he (hx b z), u.tups, u.frzs, u.tbls⟩
end
def trk (h : Heap) (H : Hp) : List Addr := (List.range h.objs.size).filter fun a => (H a).isSome
def hidT (h : Heap) (H : Hp) : Heap := PySem.W.hideAll h (trk h H)
theorem hidT_size (h : Heap) (H : Hp) : (hidT h H).objs.size = h.objs.size := PySem.W.hideAll_size _ _
theorem hidT_get {h : Heap} {H : Hp} {b : Addr} {o : Obj} (e : h.get? b = some o) (n : H b = none) : (hidT h H).get? b = some o :=
  PySem.W.hideAll_get _ e fun hm => by
    have q : (H b).isSome = true := (List.mem_filter.mp hm).2
    rw [n] at q; simp at q
theorem of_hidT {h : Heap} {H : Hp} {b : Addr} {o : Obj} (e : (hidT h H).get? b = some o) : h.get? b = some o ∧ H b = none := by
  have e' : h.get? b = some o := PySem.W.of_hideAll (trk h H) e
  refine ⟨e', ?_⟩
  cases q : H b with
  | none => rfl
  | some x =>
    have hm : b ∈ trk h H := List.mem_filter.mpr ⟨List.mem_range.mpr (Heap.lt_size e'), by simp [q]⟩
    have z : (hidT h H).get? b = none := PySem.W.hideAll_none (trk h H) hm
    rw [z] at e; cases e
def allNews (g h : Heap) (L : Addr) : List (Addr × Obj) := (List.range h.objs.size).filterMap fun a => if a = L ∨ (g.get? a).isSome = true then none else (h.get? a).map fun o => (a, o)
def rest (g h : Heap) (L d : Addr) : List (Addr × Obj) := (allNews g h L).filter fun p => decide (p.1 ≠ d)
end L2
namespace L2
open PySem PySem.Spec PyProof.Rows
structure Mod (K : PySem.W.Frag) (mg : Str → Option Value) (base : Heap) : Prop where
  kin : K.In base
  glob : base.Ns mainGlobals mg
  blt : ∃ mb, base.Ns builtinsNs mb ∧ ∀ x : Str, x ≠ "__name__" → mb x = bootBuiltins x
  nolimit : base.NoLimit
structure Cx where
  prog : Program
  w : World
  K : PySem.W.Frag
  mg : Str → Option Value
  base : Heap
  A : Around
  N : List Str
  s₀ : Shared
  H₀ : Hp
  env : Env
  outer : List Env
  stack : List Env
  ex : List Addr
  fn : Str → Bool
  calm : Bool
  pn : List (Addr × Obj)
  xe : Value → Shared → Prop
def frs (l : List Env) : List Addr := l.filterMap (·.frame)
abbrev Cx.fs (X : Cx) : List Addr := frs X.outer
def Vis (sc : Scope) (x : Str) : Prop := sc.names.lookup x = some .local ∨ sc.names.lookup x = some .cell ∨ sc.names.lookup x = some .free
def Loc (sc : Scope) (x : Str) : Prop := sc.names.lookup x = some .local ∨ sc.names.lookup x = some .cell
def Look (env : Env) (h : Heap) (m : Str → Option Value) (x : Str) (u : Value) : Prop :=
  (env.kindOf x = some .local ∧ m x = some u) ∨ ((env.kindOf x = some .cell ∨ env.kindOf x = some .free) ∧ ∃ c, env.cells.lookup x = some c ∧ h.IsCell c (some u))
structure Cx.Ok (X : Cx) : Prop where
  mod : Mod X.K X.mg X.base
  kind : X.env.scope.kind = .function
  glob : X.env.globals = mainGlobals
  blt : X.env.builtins = builtinsNs
  above : X.s₀.heap.objs.size ≤ X.env.locals
  inj : ∀ x y c, X.env.cells.lookup x = some c → X.env.cells.lookup y = some c → x = y
  has : ∀ x, (X.env.kindOf x = some .cell ∨ X.env.kindOf x = some .free) → ∃ c, X.env.cells.lookup x = some c
  cab : ∀ x c, X.fn x = true → X.env.cells.lookup x = some c → X.s₀.heap.objs.size ≤ c
  hd : X.calm = true → X.A.handled = none
  frames : X.A.frames = some X.stack
  stk : X.stack = X.outer ∨ (X.stack = X.env :: X.outer ∧ X.env.frame = some X.env.locals)
  exf : ∀ b ∈ X.ex, b ≠ X.env.locals ∧ ∀ x c, X.env.cells.lookup x = some c → c ≠ b
  bs : ∀ b o, X.base.get? b = some o → X.s₀.heap.get? b = some o ∧ X.H₀ b = none
  bsz : X.base.objs.size ≤ X.s₀.heap.objs.size
  noex : ∀ b o, X.base.get? b = some o → b ∉ X.ex
  exfs : ∀ b ∈ X.ex, b ∉ X.fs
  funs : X.s₀.heap.FunFrames X.base X.outer
  frf : ∀ b ∈ X.fs, X.H₀ b = none
structure Inv (X : Cx) (pins : List (Addr × Obj)) (σ : List (Option V)) (H : Hp) (s : Shared) : Prop where
  ok : X.Ok
  os : s.os = X.s₀.os
  bare : AllBare s.gens
  base : Un X.fs X.ex X.H₀ H X.s₀.heap s.heap
  loc : ∃ m, s.heap.Ns X.env.locals m ∧ ∀ (i : Nat) (x : Str) (v : V), X.N[i]? = some x → σ[i]? = some (some v) → Vis X.env.scope x → ∃ u, RelV v u ∧ Look X.env s.heap m x u
  cell : ∀ x c, X.env.cells.lookup x = some c → ∃ v, s.heap.IsCell c v
  free : H X.env.locals = none
  freeC : ∀ x c, X.env.cells.lookup x = some c → H c = none
  pin : ∀ p ∈ X.pn ++ pins, s.heap.get? p.1 = some p.2 ∧ H p.1 = none ∧ p.1 ≠ X.env.locals ∧ p.1 ∉ X.fs ∧ ∀ v, p.2.data ≠ .cell v
  hok : HOk X.prog X.w H s.heap
  len : σ.length = X.N.length
section
variable {X : Cx} {pins : List (Addr × Obj)} {σ : List (Option V)} {H H' : Hp} {s : Shared} {h' : Heap}
theorem Cx.Ok.nofr (ok : X.Ok) {b : Addr} {o : Obj} (e : X.base.get? b = some o) : b ∉ X.fs := fun hb => by
  have := (ok.funs.mem hb).1
  rw [e] at this; cases this
theorem Inv.bs (I : Inv X pins σ H s) : ∀ b o, X.base.get? b = some o → s.heap.get? b = some o ∧ H b = none := fun b o e =>
  ⟨I.base.keep b o (I.ok.bs b o e).1 (I.ok.bs b o e).2 (I.ok.nofr e) (I.ok.noex b o e), I.base.free b o (I.ok.bs b o e).1 (I.ok.bs b o e).2 (I.ok.noex b o e)⟩
theorem Inv.bk (I : Inv X pins σ H s) : ∀ b o, X.base.get? b = some o → s.heap.get? b = some o := fun b o e => (I.bs b o e).1
theorem Inv.mod (I : Inv X pins σ H s) : Mod X.K X.mg X.base := I.ok.mod
theorem Inv.kIn (I : Inv X pins σ H s) : X.K.In s.heap := I.ok.mod.kin.keeps I.bk
theorem Inv.lt (I : Inv X pins σ H s) : X.env.locals < s.heap.objs.size := let ⟨_, hn, _⟩ := I.loc; hn.lt
theorem Inv.sz (I : Inv X pins σ H s) : X.s₀.heap.objs.size ≤ s.heap.objs.size := Nat.le_trans I.ok.above (Nat.le_of_lt I.lt)
theorem Inv.nofs (I : Inv X pins σ H s) {a : Addr} (h : s.heap.objs.size ≤ a) : a ∉ X.fs := fun hb => by
  obtain ⟨_, o, ho, _⟩ := I.ok.funs.mem hb
  exact absurd (Nat.lt_of_lt_of_le (Heap.lt_size ho) (Nat.le_trans I.sz h)) (Nat.lt_irrefl _)
theorem Inv.cne (I : Inv X pins σ H s) : ∀ x c, X.env.cells.lookup x = some c → c ≠ X.env.locals := fun x c e z => by
  obtain ⟨v, o, ho, hd⟩ := I.cell x c e
  obtain ⟨m, ⟨o', es, ep, ho', hd', _⟩, _⟩ := I.loc
  rw [z, ho'] at ho; cases ho; rw [hd'] at hd; cases hd
theorem Inv.funs (I : Inv X pins σ H s) : s.heap.FunFrames X.base X.outer := by
  have all : ∀ (l : List Env), (∀ b ∈ frs l, b ∈ X.fs) → X.s₀.heap.FunFrames X.base l → s.heap.FunFrames X.base l := by
    intro l
    induction l with
    | nil => intro _ _; trivial
    | cons env r ih =>
      intro hs hl
      obtain ⟨hk, ⟨L, o, hf, hn, ho, hd⟩, hr⟩ := hl
      have hL : L ∈ X.fs := hs L (by unfold frs; rw [List.filterMap_cons, hf]; exact List.mem_cons_self)
      obtain ⟨sl, e⟩ := I.base.slot L o ho (I.ok.frf L hL) hL fun z => I.ok.exfs L z hL
      exact ⟨hk, ⟨L, _, hf, hn, e, hd⟩, ih (fun b hb => hs b (by unfold frs; rw [List.filterMap_cons, hf]; exact List.mem_cons_of_mem _ hb)) hr⟩
  exact all X.outer (fun _ hb => hb) I.ok.funs
theorem Inv.stack (I : Inv X pins σ H s) : s.heap.FunFrames X.base X.stack := by
  rcases I.ok.stk with e | ⟨e, hf⟩
  · rw [e]; exact I.funs
  · rw [e]
    obtain ⟨m, hn, _⟩ := I.loc
    refine .cons (by rw [I.ok.kind]; decide) hf hn ?_ I.funs
    exact Heap.get?_none_of_le (Nat.le_trans I.ok.bsz I.ok.above)
theorem Inv.stkSub (I : Inv X pins σ H s) : ∀ b ∈ frs X.stack, b ∈ X.env.locals :: X.fs := fun b hb => by
  rcases I.ok.stk with e | ⟨e, hf⟩
  · rw [e] at hb; exact List.mem_cons_of_mem _ hb
  · rw [e] at hb
    unfold frs at hb
    rw [List.filterMap_cons, hf] at hb
    exact hb
theorem Inv.stkFree (I : Inv X pins σ H s) : ∀ b ∈ frs X.stack, H b = none := fun b hb => by
  rcases List.mem_cons.mp (I.stkSub b hb) with e | hb
  · rw [e]; exact I.free
  · obtain ⟨_, o, ho, _⟩ := I.ok.funs.mem hb
    exact I.base.free b o ho (I.ok.frf b hb) fun z => I.ok.exfs b z hb
theorem Inv.step {g' : Array GenState} {t' : Nat} {d' : Drawn} {ch : List Addr} (I : Inv X pins σ H s)
    (hch : ∀ b ∈ ch, (b ∈ X.ex ∨ X.s₀.heap.objs.size ≤ b) ∧ b ≠ X.env.locals ∧ (∀ x c, X.env.cells.lookup x = some c → c ≠ b) ∧ ∀ p ∈ X.pn ++ pins, p.1 ≠ b)
    (keep : ∀ b o, b ≠ X.env.locals → b ∉ X.fs → b ∉ ch → s.heap.get? b = some o → H b = none → h'.get? b = some o)
    (slot : ∀ b o, b ≠ X.env.locals → b ∈ X.fs → b ∉ ch → s.heap.get? b = some o → H b = none → ∃ sl, h'.get? b = some { o with slots := sl }) (free : ∀ b o, b ∉ ch → s.heap.get? b = some o → H b = none → H' b = none)
    (there : ∀ b o, b ∉ ch → s.heap.get? b = some o → ∃ o', h'.get? b = some o')
    (tups : ∀ b xs, H b = some (.tup xs) → H' b = some (.tup xs)) (frzs : ∀ b o u, H b = some (.frz o u) → H' b = some (.frz o u)) (tbls : ∀ b ps, H b = some (.tbl ps) → ∃ more, H' b = some (.tbl (ps ++ more)))
    (ns : ∀ m, s.heap.Ns X.env.locals m → h'.Ns X.env.locals m) (hok : HOk X.prog X.w H' h') (hg : AllBare g') :
    Inv X pins σ H' { s with heap := h', gens := g', drawn := d', toks := t' } := by
  have neL : ∀ b o, X.s₀.heap.get? b = some o → b ≠ X.env.locals := fun b o e => Nat.ne_of_lt (Nat.lt_of_lt_of_le (Heap.lt_size e) I.ok.above)
  have neC : ∀ b o, X.s₀.heap.get? b = some o → b ∉ X.ex → b ∉ ch := fun b o e hx hb => by
    rcases (hch b hb).1 with z | z
    · exact hx z
    · exact absurd (Nat.lt_of_lt_of_le (Heap.lt_size e) z) (Nat.lt_irrefl _)
  have cellK : ∀ x c, X.env.cells.lookup x = some c → ∀ v, s.heap.IsCell c v → h'.IsCell c v := fun x c e v ⟨o, ho, hd⟩ => by
    have nch : c ∉ ch := fun z => (hch c z).2.2.1 x c e rfl
    by_cases hc : c ∈ X.fs
    · obtain ⟨sl, q⟩ := slot c o (I.cne x c e) hc nch ho (I.freeC x c e)
      exact ⟨_, q, hd⟩
    · exact ⟨o, keep c o (I.cne x c e) hc nch ho (I.freeC x c e), hd⟩
  refine ⟨I.ok, I.os, hg, ⟨fun b o e n hb hx => ?_, fun b o e n hb hx => ?_, fun b o e n hx => ?_, fun b o e hx => ?_, fun b xs e => tups b xs (I.base.tups b xs e), fun b o xs e => frzs b o xs (I.base.frzs b o xs e), fun b ps e => ?_⟩, ?_, fun x c e => ?_, ?_, fun x c e => ?_, fun p hp => ?_, hok, I.len⟩
  · exact keep b o (neL b o e) hb (neC b o e hx) (I.base.keep b o e n hb hx) (I.base.free b o e n hx)
  · obtain ⟨sl, e1⟩ := I.base.slot b o e n hb hx
    obtain ⟨sl', e2⟩ := slot b _ (neL b o e) hb (neC b o e hx) e1 (I.base.free b o e n hx)
    exact ⟨sl', e2⟩
  · obtain ⟨o', e1⟩ := I.base.there b o e hx
    exact free b o' (neC b o e hx) e1 (I.base.free b o e n hx)
  · obtain ⟨o', e1⟩ := I.base.there b o e hx
    exact there b o' (neC b o e hx) e1
  · obtain ⟨m1, e1⟩ := I.base.tbls b ps e
    obtain ⟨m2, e2⟩ := tbls b _ e1
    exact ⟨m1 ++ m2, by rw [e2, Array.append_assoc]⟩
  · obtain ⟨m, hn, hl⟩ := I.loc
    refine ⟨m, ns m hn, fun i x v e1 e2 e3 => ?_⟩
    obtain ⟨u, r, l⟩ := hl i x v e1 e2 e3
    refine ⟨u, r, ?_⟩
    rcases l with l | ⟨k, c, e, z⟩
    · exact .inl l
    · exact .inr ⟨k, c, e, cellK x c e _ z⟩
  · obtain ⟨v, z⟩ := I.cell x c e
    exact ⟨v, cellK x c e v z⟩
  · obtain ⟨m, ⟨o, _, _, ho, _⟩, _⟩ := I.loc
    exact free _ o (fun z => (hch _ z).2.1 rfl) ho I.free
  · obtain ⟨v, o, ho, hd⟩ := I.cell x c e
    exact free c o (fun z => (hch c z).2.2.1 x c e rfl) ho (I.freeC x c e)
  · obtain ⟨e, n, ne, nf, d⟩ := I.pin p hp
    have nch : p.1 ∉ ch := fun z => (hch p.1 z).2.2.2 p hp rfl
    exact ⟨keep p.1 p.2 ne nf nch e n, free p.1 p.2 nch e n, ne, nf, d⟩
theorem Inv.un {t' : Nat} (I : Inv X pins σ H s) (u : Un X.fs [] H H' s.heap h') (hok : HOk X.prog X.w H' h') : Inv X pins σ H' { s with heap := h', toks := t' } := by
  obtain ⟨m, ⟨o, es, ep, ho, r⟩, _⟩ := id I.loc
  obtain ⟨sl, hL⟩ := u.any ho I.free (by simp)
  exact I.step (g' := s.gens) (d' := s.drawn) (ch := []) (fun _ z => nomatch z) (fun b o _ hb _ e n => u.keep b o e n hb (by simp)) (fun b o _ hb _ e n => u.slot b o e n hb (by simp)) (fun b o _ e n => u.free b o e n (by simp)) (fun b o _ e => u.there b o e (by simp)) u.tups u.frzs u.tbls (fun m' hm => by
    obtain ⟨o', es', ep', ho', r'⟩ := hm
    rw [ho] at ho'; cases ho'
    exact ⟨_, es', ep', hL, r'⟩) hok I.bare
theorem Inv.call {g' : Array GenState} {t' : Nat} {d' : Drawn} {ch : List Addr} (I : Inv X pins σ H s) (u : Un (frs X.stack) ch H H' s.heap h') (hok : HOk X.prog X.w H' h') (hg : AllBare g')
    (hch : ∀ b ∈ ch, (b ∈ X.ex ∨ X.s₀.heap.objs.size ≤ b) ∧ b ≠ X.env.locals ∧ (∀ x c, X.env.cells.lookup x = some c → c ≠ b) ∧ ∀ p ∈ X.pn ++ pins, p.1 ≠ b) :
    Inv X pins σ H' { s with heap := h', gens := g', drawn := d', toks := t' } := by
  obtain ⟨m, ⟨o, es, ep, ho, r⟩, _⟩ := id I.loc
  obtain ⟨sl, hL⟩ := u.any ho I.free fun z => (hch _ z).2.1 rfl
  exact I.step (ch := ch) hch (fun b o hL hb hc e n => u.keep b o e n (fun z => (List.mem_cons.mp (I.stkSub b z)).elim hL hb) hc) (fun b o _ _ hc e n => u.any e n hc) (fun b o hc e n => u.free b o e n hc) (fun b o hc e => u.there b o e hc) u.tups u.frzs u.tbls (fun m' hm => by
    obtain ⟨o', es', ep', ho', r'⟩ := hm
    rw [ho] at ho'; cases ho'
    exact ⟨_, es', ep', hL, r'⟩) hok hg
theorem Inv.turned {t' : Nat} {it : Addr} (I : Inv X pins σ H s) (k : ∀ b o, b ≠ it → s.heap.get? b = some o → h'.get? b = some o) (hn : H it = none) (hL : it ≠ X.env.locals)
    (h1 : it ∈ X.ex ∨ X.s₀.heap.objs.size ≤ it) (h2 : ∀ x c, X.env.cells.lookup x = some c → c ≠ it) (h3 : ∀ p ∈ X.pn ++ pins, p.1 ≠ it) : Inv X pins σ H { s with heap := h', toks := t' } := by
  have nit : ∀ b u, H b = some u → b ≠ it := fun b u e z => by rw [z, hn] at e; cases e
  refine I.step (g' := s.gens) (d' := s.drawn) (ch := [it]) (fun b hb => ?_) (fun b o _ _ hc e _ => k b o (fun z => hc (by simp [z])) e) (fun b o _ _ hc e _ => ⟨o.slots, k b o (fun z => hc (by simp [z])) e⟩) (fun _ _ _ _ n => n)
    (fun b o hc e => ⟨o, k b o (fun z => hc (by simp [z])) e⟩) (fun _ _ e => e) (fun _ _ _ e => e) (fun b ps e => ⟨#[], by rw [e]; simp⟩) (fun m hm => ?_) (fun b u e => ?_) I.bare
  · have e : b = it := by simpa using hb
    subst e
    exact ⟨h1, hL, h2, h3⟩
  · obtain ⟨o, es, ep, ho, r⟩ := hm
    exact ⟨o, es, ep, k _ o (Ne.symm hL) ho, r⟩
  · refine (I.hok b u e).stay (fun c v hc q => k c v ?_ q) (fun _ q => q) fun _ _ q => q
    rcases hc with z | z
    · rw [z]; exact nit b u e
    · exact nit c _ z
theorem Inv.tok (I : Inv X pins σ H s) (t : Nat) : Inv X pins σ H { s with toks := t } := I.un (h' := s.heap) (t' := t) Un.refl I.hok
theorem Inv.kept {t' : Nat} (I : Inv X pins σ H s) (k : ∀ b u, s.heap.get? b = some u → h'.get? b = some u) : Inv X pins σ H { s with heap := h', toks := t' } := I.un (Un.kept k) (I.hok.kept k)
theorem Inv.laid {a : Addr} {o : HO} {t' : Nat} (I : Inv X pins σ H s) (k : ∀ b u, s.heap.get? b = some u → h'.get? b = some u) (hp : s.heap.objs.size ≤ a) (new : ObjOk X.prog X.w (upd H a o) h' a o) :
    Inv X pins σ (upd H a o) { s with heap := h', toks := t' } := I.un (Un.laid k hp (I.hok.fresh hp)) (I.hok.laid k hp new)
theorem Inv.write {x e : Addr} {o : HO} {t' : Nat} (I : Inv X pins σ H s) (mu : Mut (H x)) (he : e = x ∨ H e = some (.own x)) (k : ∀ b u, b ≠ e → s.heap.get? b = some u → h'.get? b = some u) (heo : ∃ u, h'.get? e = some u)
    (new : ObjOk X.prog X.w (upd H x o) h' x o) : Inv X pins σ (upd H x o) { s with heap := h', toks := t' } := I.un (Un.write mu he k heo) (I.hok.write mu he k heo new)
theorem Inv.pins_of {pins' : List (Addr × Obj)} (I : Inv X pins σ H s) (h : ∀ p ∈ pins', s.heap.get? p.1 = some p.2 ∧ H p.1 = none ∧ p.1 ≠ X.env.locals ∧ p.1 ∉ X.fs ∧ ∀ v, p.2.data ≠ .cell v) : Inv X pins' σ H s :=
  ⟨I.ok, I.os, I.bare, I.base, I.loc, I.cell, I.free, I.freeC, fun p hp => (List.mem_append.mp hp).elim (fun z => I.pin p (List.mem_append_left _ z)) (h p), I.hok, I.len⟩
theorem nodup_ix {N : List Str} (hN : N.Nodup) {i j : Nat} {x : Str} (a : N[i]? = some x) (b : N[j]? = some x) : i = j := by
  obtain ⟨h1, e1⟩ := List.getElem?_eq_some_iff.mp a
  obtain ⟨h2, e2⟩ := List.getElem?_eq_some_iff.mp b
  exact (List.getElem_inj hN).mp (e1.trans e2.symm)
theorem store_ok2 {M : Model} {A : Around} {E : Value → Shared → Prop} {i : Nat} {x : Str} {v : V} {u : Value} {Q : Unit → Shared → Prop} (I : Inv X pins σ H s) (hN : X.N.Nodup) (hi : X.N[i]? = some x) (hx : Loc X.env.scope x) (r : RelV v u)
    (h : ∀ s', Inv X pins (σ.set i (some v)) H s' → (∃ a, Heap.SameBut a s.heap s'.heap ∧ (a = X.env.locals ∨ X.env.cells.lookup x = some a)) → Q () s') (hf : X.fn x = true ∨ X.env.scope.names.lookup x = some .local := by first | exact .inl rfl | exact .inr rfl | assumption) : wpAny M A (storeName X.env x u) Q E s := by
  obtain ⟨m, hn, hl⟩ := id I.loc
  have hcls : (X.env.scope.kind == .class || (X.env.scope.kind == .module && X.env.locals != X.env.globals)) = false := by rw [I.ok.kind]; rfl
  have hiσ : i < σ.length := by rw [I.len]; exact (List.getElem?_eq_some_iff.mp hi).1
  have cne := I.cne
  have tracked : ∀ {a : Addr} {h' : Heap}, (∃ o, s.heap.get? a = some o ∧ H a = none) → Heap.SameBut a s.heap h' → HOk X.prog X.w H h' := fun {a h'} ha hs b ob e => by
    obtain ⟨_, _, hfree⟩ := ha
    refine (I.hok b ob e).stay (fun c w' hc q => (hs.2 c ?_).trans q) (fun _ q => q) fun _ _ q => q
    rintro rfl
    rcases hc with rfl | hc
    · rw [hfree] at e; cases e
    · rw [hfree] at hc; cases hc
  rcases hx with hk | hk
  · refine wpAny_storeName_local hk hn (fun h' hn' hs => ?_) hcls
    obtain ⟨oL, _, _, hoL, _⟩ := id hn
    refine h _ ⟨I.ok, I.os, I.bare, ⟨fun b o e n hb hx => ?_, fun b o e n hb hx => ?_, I.base.free, fun b o e hx => ?_, I.base.tups, I.base.frzs, I.base.tbls⟩, ⟨_, hn', fun j y v' e1 e2 e3 => ?_⟩, fun y c e => ?_, I.free, I.freeC, fun p hp => ?_, tracked ⟨oL, hoL, I.free⟩ hs, by simpa using I.len⟩ ⟨_, hs, .inl rfl⟩
    · exact (hs.2 b (Nat.ne_of_lt (Nat.lt_of_lt_of_le (Heap.lt_size e) I.ok.above))).trans (I.base.keep b o e n hb hx)
    · obtain ⟨sl, e1⟩ := I.base.slot b o e n hb hx
      exact ⟨sl, (hs.2 b (Nat.ne_of_lt (Nat.lt_of_lt_of_le (Heap.lt_size e) I.ok.above))).trans e1⟩
    · obtain ⟨o', e1⟩ := I.base.there b o e hx
      exact ⟨o', (hs.2 b (Nat.ne_of_lt (Nat.lt_of_lt_of_le (Heap.lt_size e) I.ok.above))).trans e1⟩
    · by_cases hj : j = i
      · subst hj
        rw [hi] at e1; cases e1
        rw [List.getElem?_set_self hiσ] at e2
        cases e2
        exact ⟨u, r, .inl ⟨hk, by simp⟩⟩
      · rw [List.getElem?_set_ne (Ne.symm hj)] at e2
        obtain ⟨u', r', q⟩ := hl j y v' e1 e2 e3
        refine ⟨u', r', ?_⟩
        rcases q with ⟨k, e⟩ | ⟨k, c, e, z⟩
        · refine .inl ⟨k, ?_⟩
          have : y ≠ x := fun e => hj (nodup_ix hN e1 (e ▸ hi))
          simp [this, e]
        · exact .inr ⟨k, c, e, z.sameBut hs (cne y c e)⟩
    · obtain ⟨w', z⟩ := I.cell y c e
      exact ⟨w', z.sameBut hs (cne y c e)⟩
    · obtain ⟨e, n, ne, nf, d⟩ := I.pin p hp
      exact ⟨(hs.2 p.1 ne).trans e, n, ne, nf, d⟩
  · have hfn : X.fn x = true := by
      rcases hf with z | z
      · exact z
      · rw [z] at hk; cases hk
    obtain ⟨c, hc⟩ := I.ok.has x (.inl hk)
    obtain ⟨w', z⟩ := I.cell x c hc
    refine wpAny_storeName_cell I.ok.kind hk hc z (fun h' hc' hs => ?_)
    obtain ⟨oc, hoc, hocd⟩ := id z
    refine h { s with heap := h' } ⟨I.ok, I.os, I.bare, ⟨fun b o e n hb hx => ?_, fun b o e n hb hx => ?_, I.base.free, fun b o e hx => ?_, I.base.tups, I.base.frzs, I.base.tbls⟩, ⟨m, hn.sameBut hs (Ne.symm (cne x c hc)), fun j y v' e1 e2 e3 => ?_⟩, fun y c' e => ?_, I.free, I.freeC, fun p hp => ?_, tracked ⟨oc, hoc, I.freeC x c hc⟩ hs, by simpa using I.len⟩ ⟨c, hs, .inr hc⟩
    · exact (hs.2 b (Nat.ne_of_lt (Nat.lt_of_lt_of_le (Heap.lt_size e) (I.ok.cab x c hfn hc)))).trans (I.base.keep b o e n hb hx)
    · obtain ⟨sl, e1⟩ := I.base.slot b o e n hb hx
      exact ⟨sl, (hs.2 b (Nat.ne_of_lt (Nat.lt_of_lt_of_le (Heap.lt_size e) (I.ok.cab x c hfn hc)))).trans e1⟩
    · obtain ⟨o', e1⟩ := I.base.there b o e hx
      exact ⟨o', (hs.2 b (Nat.ne_of_lt (Nat.lt_of_lt_of_le (Heap.lt_size e) (I.ok.cab x c hfn hc)))).trans e1⟩
    · by_cases hj : j = i
      · subst hj
        rw [hi] at e1; cases e1
        rw [List.getElem?_set_self hiσ] at e2
        cases e2
        exact ⟨u, r, .inr ⟨.inl hk, c, hc, hc'⟩⟩
      · rw [List.getElem?_set_ne (Ne.symm hj)] at e2
        obtain ⟨u', r', q⟩ := hl j y v' e1 e2 e3
        refine ⟨u', r', ?_⟩
        rcases q with q | ⟨k, c', e, z'⟩
        · exact .inl q
        · refine .inr ⟨k, c', e, z'.sameBut hs ?_⟩
          rintro rfl
          exact hj (nodup_ix hN e1 (I.ok.inj _ _ _ e hc ▸ hi))
    · by_cases hcc : c' = c
      · subst hcc; exact ⟨_, hc'⟩
      · obtain ⟨w2, z2⟩ := I.cell y c' e
        exact ⟨w2, z2.sameBut hs hcc⟩
    · obtain ⟨e, n, ne, nf, d⟩ := I.pin p hp
      refine ⟨(hs.2 p.1 ?_).trans e, n, ne, nf, d⟩
      intro q
      rw [q, hoc] at e
      have q' : oc = p.2 := Option.some.inj e
      exact d w' (by rw [← q']; exact hocd)
theorem store_ok {M : Model} {A : Around} {E : Value → Shared → Prop} {i : Nat} {x : Str} {v : V} {u : Value} {Q : Unit → Shared → Prop} (I : Inv X pins σ H s) (hN : X.N.Nodup) (hi : X.N[i]? = some x) (hx : Loc X.env.scope x) (r : RelV v u)
    (h : ∀ s', Inv X pins (σ.set i (some v)) H s' → Q () s') (hf : X.fn x = true ∨ X.env.scope.names.lookup x = some .local := by first | exact .inl rfl | exact .inr rfl | assumption) : wpAny M A (storeName X.env x u) Q E s :=
  store_ok2 I hN hi hx r (fun s' I' _ => h s' I') hf
theorem Inv.call' {s' : Shared} {ch : List Addr} (I : Inv X pins σ H s) (ho : s'.os = s.os) (u : Un (frs X.stack) ch H H' s.heap s'.heap) (hok : HOk X.prog X.w H' s'.heap) (hg : AllBare s'.gens)
    (hch : ∀ b ∈ ch, (b ∈ X.ex ∨ X.s₀.heap.objs.size ≤ b) ∧ b ≠ X.env.locals ∧ (∀ x c, X.env.cells.lookup x = some c → c ≠ b) ∧ ∀ p ∈ X.pn ++ pins, p.1 ≠ b) : Inv X pins σ H' s' := by
  obtain ⟨h', g', d', t', o'⟩ := s'
  have e : o' = s.os := ho
  subst e
  exact I.call (g' := g') (t' := t') (d' := d') u hok hg hch
end
abbrev XK := Value → Option Addr → Hp → Prop
abbrev St := List (Option V)
abbrev VK := V → Hp → Prop
abbrev TE := St → Hp → VK → Prop
abbrev TT := St → Hp → (Bool → Hp → Prop) → Prop
abbrev TA := St → Hp → (List V → Hp → Prop) → Prop
structure Ends where
  nx : St → Hp → Prop
  rt : VK
  bk : St → Hp → Prop := fun _ _ => False
  ct : St → Hp → Prop := fun _ _ => False
abbrev TS := Ends → St → Hp → Prop
def EP (X : Cx) (pins : List (Addr × Obj)) (σ : St) (Q : VK) (u : Value) (s' : Shared) : Prop := ∃ v H', Inv X pins σ H' s' ∧ RelV v u ∧ Q v H'
def TP (X : Cx) (pins : List (Addr × Obj)) (σ : St) (Q : Bool → Hp → Prop) (b : Bool) (s' : Shared) : Prop := ∃ H', Inv X pins σ H' s' ∧ Q b H'
def AP (X : Cx) (pins : List (Addr × Obj)) (σ : St) (Q : List V → Hp → Prop) (us : List Value) (s' : Shared) : Prop := ∃ vs H', Inv X pins σ H' s' ∧ Vals vs us ∧ Q vs H'
def SP (X : Cx) (pins : List (Addr × Obj)) (D : Ends) (f : Flow) (s' : Shared) : Prop :=
  match f with
  | .next => ∃ σ' H', Inv X pins σ' H' s' ∧ D.nx σ' H'
  | .brk => ∃ σ' H', Inv X pins σ' H' s' ∧ D.bk σ' H'
  | .cont => ∃ σ' H', Inv X pins σ' H' s' ∧ D.ct σ' H'
  | .ret u => ∃ v σ' H', Inv X pins σ' H' s' ∧ RelV v u ∧ D.rt v H'
def PE (X : Cx) (e : Expr) (t : TE) : Prop :=
  ∀ (pins : List (Addr × Obj)) (s : Shared) (σ : St) (H : Hp) (Q : VK), Inv X pins σ H s → t σ H Q → wpAny (model X.prog X.w) X.A (eval e X.env) (EP X pins σ Q) X.xe s
def PT (X : Cx) (e : Expr) (t : TT) : Prop :=
  ∀ (pins : List (Addr × Obj)) (s : Shared) (σ : St) (H : Hp) (Q : Bool → Hp → Prop), Inv X pins σ H s → t σ H Q → wpAny (model X.prog X.w) X.A (isTrue e X.env (eval e X.env)) (TP X pins σ Q) X.xe s
def PW (X : Cx) (e : Expr) (t : TT) : Prop :=
  ∀ (whole : Sem Value) (pins : List (Addr × Obj)) (s : Shared) (σ : St) (H : Hp) (Q : Bool → Hp → Prop), Inv X pins σ H s → t σ H Q → wpAny (model X.prog X.w) X.A (isTrue e X.env whole) (TP X pins σ Q) X.xe s
theorem PW.pt {X : Cx} {e : Expr} {t : TT} (h : PW X e t) : PT X e t := h _
def PA (X : Cx) (es : List Expr) (t : TA) : Prop :=
  ∀ (pos : Pos) (pins : List (Addr × Obj)) (s : Shared) (σ : St) (H : Hp) (Q : List V → Hp → Prop), Inv X pins σ H s → t σ H Q → wpAny (model X.prog X.w) X.A (spliced (backTo pos (starEach es X.env))) (AP X pins σ Q) X.xe s
def PS (X : Cx) (st : Stmt) (t : TS) : Prop :=
  ∀ (pins : List (Addr × Obj)) (s : Shared) (σ : St) (H : Hp) (D : Ends), Inv X pins σ H s → t D σ H → wpAny (model X.prog X.w) X.A (exec st X.env) (SP X pins D) X.xe s
def PSs (X : Cx) (st : List Stmt) (t : TS) : Prop :=
  ∀ (pins : List (Addr × Obj)) (s : Shared) (σ : St) (H : Hp) (D : Ends), Inv X pins σ H s → t D σ H → wpAny (model X.prog X.w) X.A (execs st X.env) (SP X pins D) X.xe s
theorem thn {α : Type} {t : Sem α} {Q Q' : α → Shared → Prop} {M : Model} {A : Around} {E : Value → Shared → Prop} {s : Shared} (h : wpAny M A t Q E s) (hQ : ∀ a s, Q a s → Q' a s) : wpAny M A t Q' E s := wpAny_mono h hQ fun _ _ x => x
end L2
namespace L2
open PySem PySem.Spec PyProof.Rows
section
variable {X : Cx}
def tVar (i : Nat) : TE := fun σ H Q => ∃ v, σ[i]? = some (some v) ∧ Q v H
def tC (v : V) : TE := fun _ H Q => Q v H
theorem pe_var {i : Nat} {x : Str} {pos : Pos} (hN : X.N[i]? = some x) (hv : Vis X.env.scope x) (hd : (x == ("__debug__" : Str)) = false := by decide) (hcd : (x == ("__classdict__" : Str)) = false := by decide) : PE X (.Name x pos) (tVar i) := by
  intro pins s σ H Q I h
  obtain ⟨v, e, h⟩ := h
  obtain ⟨m, hn, hl⟩ := I.loc
  obtain ⟨u, r, l⟩ := hl i x v hN e hv
  have fin : EP X pins σ Q u s := ⟨v, H, I, r, h⟩
  rcases l with ⟨hk, hm⟩ | ⟨hk, c, hc, hcell⟩
  · exact wpAny_Name (wpAny_loadName_local I.ok.kind hk hn hm fin) hd
  · rcases hk with hk | hk
    · exact wpAny_Name (wpAny_loadName_cell I.ok.kind hk hc hcell fin) hd
    · exact wpAny_Name (wpAny_loadName_free I.ok.kind hk hc hcell fin hcd) hd
theorem pe_int {i j pos} : PE X (.Constant (.int i) j pos) (tC (.int i)) := fun _ _ _ H _ I h => wpAny_Constant_int ⟨.int i, H, I.tok _, ⟨_, rfl⟩, h⟩
theorem pe_bl {b j pos} : PE X (.Constant (.bool b) j pos) (tC (.bl b)) := fun _ _ _ H _ I h => Constant_bool ⟨.bl b, H, I, rfl, h⟩
theorem pe_non {j pos} : PE X (.Constant .none j pos) (tC .non) := fun _ _ _ H _ I h => Constant_none ⟨.non, H, I, rfl, h⟩
def Gl (X : Cx) (x : Str) : Prop := X.env.kindOf x = some .globalImplicit
theorem ld_glob {E : Value → Shared → Prop} {pins : List (Addr × Obj)} {s : Shared} {σ : St} {H : Hp} {x : Str} {u : Value} {pos : Pos} {Q : Value → Shared → Prop} (I : Inv X pins σ H s) (hg : Gl X x) (hm : X.mg x = some u) (h : Q u s)
    (hd : (x == ("__debug__" : Str)) = false := by decide) : wpAny (model X.prog X.w) X.A (eval (.Name x pos) X.env) Q E s :=
  Calls.Name_function_global I.ok.kind hg (Calls.loadGlobal_global (by rw [I.ok.glob]; exact I.mod.glob.keeps I.bk) hm h) hd
theorem ld_blt {E : Value → Shared → Prop} {pins : List (Addr × Obj)} {s : Shared} {σ : St} {H : Hp} {x : Str} {u : Value} {pos : Pos} {Q : Value → Shared → Prop} (I : Inv X pins σ H s) (hg : Gl X x) (hm : X.mg x = none) (hv : bootBuiltins x = some u) (h : Q u s)
    (hn : x ≠ "__name__" := by decide) (hd : (x == ("__debug__" : Str)) = false := by decide) : wpAny (model X.prog X.w) X.A (eval (.Name x pos) X.env) Q E s := by
  obtain ⟨mb, h1, h2⟩ := I.mod.blt
  exact Calls.Name_function_global I.ok.kind hg (Calls.loadGlobal_builtin (by rw [I.ok.glob]; exact I.mod.glob.keeps I.bk) hm (by rw [I.ok.blt]; exact h1.keeps I.bk) ((h2 x hn).trans hv) h) hd
theorem pe_bltn {x : Str} {v : V} {u : Value} {pos : Pos} (hg : Gl X x) (hm : X.mg x = none) (hv : bootBuiltins x = some u) (r : RelV v u) (hn : x ≠ "__name__" := by decide) (hd : (x == ("__debug__" : Str)) = false := by decide) : PE X (.Name x pos) (tC v) :=
  fun _ _ _ H _ I h => ld_blt I hg hm hv ⟨v, H, I, r, h⟩ hn hd
variable {a b : Expr} {ta tb : TE} {pos : Pos}
def PC (X : Cx) (op : CmpOp) (a b : Expr) (t : TE) : Prop :=
  ∀ (pins : List (Addr × Obj)) (s : Shared) (σ : St) (H : Hp) (Q : VK), Inv X pins σ H s → t σ H Q →
    wpAny (model X.prog X.w) X.A (eval a X.env) (fun v s₁ => wpAny (model X.prog X.w) X.A (eval b X.env) (fun u s₂ => wpAny (model X.prog X.w) X.A (compareOp op v u) (EP X pins σ Q) X.xe s₂) X.xe s₁) X.xe s
theorem nobehind (b : Expr) {op : CmpOp} (h : op ≠ .In) (h2 : op ≠ .NotIn) : behindInMarks op b = false := by
  have e1 : (op == CmpOp.In) = false := by cases op <;> first | rfl | exact absurd rfl h
  have e2 : (op == CmpOp.NotIn) = false := by cases op <;> first | rfl | exact absurd rfl h2
  cases b <;> simp [behindInMarks, e1, e2]
def tB (t : TE) : TT := fun σ H Q => t σ H fun x H1 => ∃ c, x = .bl c ∧ Q c H1
theorem pt_cmp {op : CmpOp} {t : TE} (h : PC X op a b t) (h1 : behindInMarks op b = false := by first | exact nobehind _ (by decide) (by decide) | rfl) : PT X (.Compare a [op] [b] pos) (tB t) := by
  intro pins s σ H Q I hw
  refine wpAny_isTrue_Compare1 (thn (h pins s σ H _ I hw) fun v s1 h1 => thn h1 fun u s2 h2 => thn h2 fun c s3 ⟨x, H1, I1, r1, q1⟩ => ?_) h1
  obtain ⟨d, rfl, q⟩ := q1
  cases r1
  exact wpAny_truthy_bool ⟨H1, I1, q⟩
variable {tA tB' : TT} {rest : List Expr}
def tAnd (t u : TT) : TT := fun σ H Q => t σ H fun c H1 => if c = true then u σ H1 Q else Q false H1
def tOr (t u : TT) : TT := fun σ H Q => t σ H fun c H1 => if c = true then Q true H1 else u σ H1 Q
def tNot (t : TT) : TT := fun σ H Q => t σ H fun c H1 => Q (!c) H1
theorem pw_and1 (ha : PT X a tA) : PW X (.BoolOp .And [a] pos) tA := by
  intro wh pins s σ H Q I h
  refine isTrue_and (thn (ha pins s σ H Q I h) fun c s1 e => ?_)
  cases c with
  | true => exact isTrue_and_nil e
  | false => exact e
theorem pw_or1 (ha : PT X a tA) : PW X (.BoolOp .Or [a] pos) tA := by
  intro wh pins s σ H Q I h
  refine isTrue_or (thn (ha pins s σ H Q I h) fun c s1 e => ?_)
  cases c with
  | false => exact isTrue_or_nil e
  | true => exact e
theorem pw_and (ha : PT X a tA) (hb : PW X (.BoolOp .And (b :: rest) pos) tB') : PW X (.BoolOp .And (a :: b :: rest) pos) (tAnd tA tB') := by
  intro wh pins s σ H Q I h
  refine isTrue_and (thn (ha pins s σ H _ I h) fun c s1 hh => ?_)
  obtain ⟨H1, I1, q1⟩ := hh
  cases c with
  | true => exact hb wh pins s1 σ H1 Q I1 q1
  | false => exact ⟨H1, I1, q1⟩
theorem pw_or (ha : PT X a tA) (hb : PW X (.BoolOp .Or (b :: rest) pos) tB') : PW X (.BoolOp .Or (a :: b :: rest) pos) (tOr tA tB') := by
  intro wh pins s σ H Q I h
  refine isTrue_or (thn (ha pins s σ H _ I h) fun c s1 hh => ?_)
  obtain ⟨H1, I1, q1⟩ := hh
  cases c with
  | true => exact ⟨H1, I1, q1⟩
  | false => exact hb wh pins s1 σ H1 Q I1 q1
theorem pt_not (ha : PT X a tA) : PT X (.UnaryOp .Not a pos) (tNot tA) := by
  intro pins s σ H Q I h
  exact isTrue_not (ha pins s σ H (fun c H1 => Q (!c) H1) I h)
theorem pe_one {op} {t : TE} (h : PE X a t) : PE X (.BoolOp op [a] pos) t := fun pins s σ H Q I hw => BoolOp_one (h pins s σ H Q I hw)
def tIf (t : TT) (ta tb : TE) : TE := fun σ H Q => t σ H fun c H1 => if c = true then ta σ H1 Q else tb σ H1 Q
theorem pe_ifExp {c : Expr} (hc : PT X c tA) (ha : PE X a ta) (hb : PE X b tb) : PE X (.IfExp c a b pos) (tIf tA ta tb) := by
  intro pins s σ H Q I h
  refine wpAny_IfExp (thn (hc pins s σ H _ I h) fun d s1 hh => ?_)
  obtain ⟨H1, I1, q1⟩ := hh
  cases d with
  | true => exact ha pins s1 σ H1 Q I1 q1
  | false => exact hb pins s1 σ H1 Q I1 q1
end
end L2
namespace L2
open PySem PySem.Spec PyProof.Rows
def SqL (K : PySem.W.Frag) (H : Hp) (a : Addr) (xs : List V) : Prop :=
  Rd H a (.lst xs) ∨
    ∃ (o : Obj) (its : Array Value) (n : Nat), K.lookup a = some o ∧ o.cls = .type "list" ∧ o.dict = none ∧ o.data = .seq its n ∧ its.size ≤ sizeLine ∧ Vals xs its.toList
def SqT (K : PySem.W.Frag) (H : Hp) (a : Addr) (xs : List V) : Prop :=
  Rd H a (.tup xs) ∨
    ∃ (o : Obj) (its : Array Value) (n : Nat), K.lookup a = some o ∧ o.cls = .type "tuple" ∧ o.data = .seq its n ∧ its.size ≤ sizeLine ∧ Vals xs its.toList
def absV : Value → Option V
  | .none => some .non
  | .bool b => some (.bl b)
  | .int i _ => some (.int i)
  | .str x _ => some (.str x)
  | .bytes b _ => some (.byt b)
  | .float b _ => some (.flt b)
  | .ref a => some (.ref a)
  | .type n => some (.ty n)
  | _ => none
theorem RelV.abs {x : V} {u : Value} (r : RelV x u) : absV u = some x := by
  cases x with
  | non => cases r; rfl
  | bl _ => cases r; rfl
  | int _ => obtain ⟨t, rfl⟩ := r; rfl
  | str _ => obtain ⟨t, rfl⟩ := r; rfl
  | byt _ => obtain ⟨t, rfl⟩ := r; rfl
  | flt _ => obtain ⟨t, rfl⟩ := r; rfl
  | ref _ => cases r; rfl
  | ty _ => cases r; rfl
theorem RelV.inj {x y : V} {u : Value} (r : RelV x u) (q : RelV y u) : x = y := Option.some.inj (r.abs.symm.trans q.abs)
theorem Vals.inj : ∀ {xs ys : List V} {us : List Value}, Vals xs us → Vals ys us → xs = ys
  | _, _, _, .nil, .nil => rfl
  | _, _, _, .cons r t, .cons r' t' => by rw [r.inj r', Vals.inj t t']
section
variable {X : Cx} {pins : List (Addr × Obj)} {σ : St} {H : Hp} {s : Shared} {a : Addr} {xs ys : List V}
theorem SqL.of {K : PySem.W.Frag} (h : H a = some (.lst xs)) : SqL K H a xs := .inl (.inl h)
theorem SqT.of {K : PySem.W.Frag} (h : H a = some (.tup xs)) : SqT K H a xs := .inl (.inl h)
theorem Inv.list (I : Inv X pins σ H s) (h : SqL X.K H a xs) : ∃ its : List Value, Vals xs its ∧ PlainL s.heap a its.toArray ∧ xs.length ≤ sizeLine := by
  rcases h with h | ⟨o, its, n, hk, hc, hd, hs, hz, r⟩
  · obtain ⟨z, its, n, r, e⟩ := h.ok I.hok
    exact ⟨its, r, ⟨_, n, e, rfl, rfl, rfl⟩, z⟩
  · refine ⟨its.toList, r, ⟨o, n, I.kIn a o hk, hc, hd, by simpa using hs⟩, ?_⟩
    have e := r.length
    simp only [Array.length_toList] at e
    omega
theorem Inv.tuple (I : Inv X pins σ H s) (h : SqT X.K H a xs) : ∃ its : List Value, Vals xs its ∧ IsTup s.heap a its.toArray ∧ xs.length ≤ sizeLine := by
  rcases h with h | ⟨o, its, n, hk, hc, hs, hz, r⟩
  · obtain ⟨z, its, r, p⟩ := h.ok I.hok
    exact ⟨its, r, p, z⟩
  · refine ⟨its.toList, r, ⟨o, I.kIn a o hk, hc, n, by simpa using hs⟩, ?_⟩
    have e := r.length
    simp only [Array.length_toList] at e
    omega
theorem Inv.list_inj (I : Inv X pins σ H s) (h : SqL X.K H a xs) (h' : SqL X.K H a ys) : xs = ys := by
  obtain ⟨its, r, ⟨o, n, e, _, _, d⟩, _⟩ := I.list h
  obtain ⟨its', r', ⟨o', n', e', _, _, d'⟩, _⟩ := I.list h'
  rw [e] at e'; cases e'
  rw [d] at d'
  injection d' with d1 _
  have : its = its' := by simpa using congrArg Array.toList d1
  subst this
  exact r.inj r'
theorem Inv.tuple_inj (I : Inv X pins σ H s) (h : SqT X.K H a xs) (h' : SqT X.K H a ys) : xs = ys := by
  obtain ⟨its, r, ⟨o, e, _, n, d⟩, _⟩ := I.tuple h
  obtain ⟨its', r', ⟨o', e', _, n', d'⟩, _⟩ := I.tuple h'
  rw [e] at e'; cases e'
  rw [d] at d'
  injection d' with d1 _
  have : its = its' := by simpa using congrArg Array.toList d1
  subst this
  exact r.inj r'
end
abbrev Cx.wish (X : Cx) (E : Value → Shared → Prop) : Cx := { X with xe := E }
abbrev Cx.nox (X : Cx) : Cx := X.wish fun _ _ => False
theorem Cx.Ok.wish {X : Cx} (ok : X.Ok) (E : Value → Shared → Prop) : (X.wish E).Ok :=
  ⟨ok.mod, ok.kind, ok.glob, ok.blt, ok.above, ok.inj, ok.has, ok.cab, ok.hd, ok.frames, ok.stk, ok.exf, ok.bs, ok.bsz, ok.noex, ok.exfs, ok.funs, ok.frf⟩
theorem Cx.Ok.unwish {X : Cx} {E : Value → Shared → Prop} (ok : (X.wish E).Ok) : X.Ok :=
  ⟨ok.mod, ok.kind, ok.glob, ok.blt, ok.above, ok.inj, ok.has, ok.cab, ok.hd, ok.frames, ok.stk, ok.exf, ok.bs, ok.bsz, ok.noex, ok.exfs, ok.funs, ok.frf⟩
section
variable {X : Cx} {pins : List (Addr × Obj)} {σ : St} {H : Hp} {s : Shared} {E : Value → Shared → Prop}
theorem Inv.wish (I : Inv X pins σ H s) (E : Value → Shared → Prop) : Inv (X.wish E) pins σ H s := ⟨I.ok.wish E, I.os, I.bare, I.base, I.loc, I.cell, I.free, I.freeC, I.pin, I.hok, I.len⟩
theorem Inv.unwish (I : Inv (X.wish E) pins σ H s) : Inv X pins σ H s := ⟨I.ok.unwish, I.os, I.bare, I.base, I.loc, I.cell, I.free, I.freeC, I.pin, I.hok, I.len⟩
theorem SP.unwish {D : Ends} {f : Flow} {s' : Shared} (h : SP (X.wish E) pins D f s') : SP X pins D f s' := by
  cases f with
  | next => obtain ⟨σ', H', I, q⟩ := h; exact ⟨σ', H', I.unwish, q⟩
  | brk => obtain ⟨σ', H', I, q⟩ := h; exact ⟨σ', H', I.unwish, q⟩
  | cont => obtain ⟨σ', H', I, q⟩ := h; exact ⟨σ', H', I.unwish, q⟩
  | ret u => obtain ⟨v, σ', H', I, r, q⟩ := h; exact ⟨v, σ', H', I.unwish, r, q⟩
theorem PSs.nox {st : List Stmt} {t : TS} (h : PSs X.nox st t) : PSs X st t := fun pins s σ H D I hw =>
  wpAny_mono (h pins s σ H D (I.wish _) hw) (fun _ _ q => q.unwish) fun _ _ z => False.elim z
end
section
variable {X : Cx} {st : Stmt} {rest : List Stmt} {t u : TS} {e : Expr} {te : TE} {pos : Pos}
def tNext : TS := fun D σ H => D.nx σ H
def tSeq (t u : TS) : TS := fun D σ H => t { D with nx := u D } σ H
theorem pss_nil : PSs X [] tNext := fun _ _ σ H _ I h => wpAny_execs_nil ⟨σ, H, I, h⟩
theorem pss_cons (h1 : PS X st t) (h2 : PSs X rest u) : PSs X (st :: rest) (tSeq t u) := by
  intro pins s σ H D I h
  refine wpAny_execs_cons (thn (h1 pins s σ H { D with nx := u D } I h) fun f s1 q => ?_)
  cases f with
  | next =>
    obtain ⟨σ', H', I', q⟩ := q
    exact h2 pins s1 σ' H' D I' q
  | ret v => exact q
  | brk => exact q
  | cont => exact q
theorem pss_one (h1 : PS X st t) : PSs X [st] t := by
  intro pins s σ H D I h
  refine wpAny_execs_cons (thn (h1 pins s σ H D I h) fun f s1 q => ?_)
  cases f with
  | next => exact wpAny_execs_nil q
  | ret v => exact q
  | brk => exact q
  | cont => exact q
theorem Inv.quiet {pins : List (Addr × Obj)} {σ : St} {H : Hp} {s : Shared} (I : Inv X pins σ H s) : interactive X.env = false := by simp [interactive, I.ok.kind]
def tDrop (te : TE) : TS := fun D σ H => te σ H fun _ H1 => D.nx σ H1
theorem ps_expr (he : PE X e te) (hs : swapsWith e none pos.line X.env = pure false := by rfl) : PS X (.Expr e pos) (tDrop te) := by
  intro pins s σ H D I h
  exact wpAny_Expr_any (thn (he pins s σ H _ I h) fun v s1 ⟨x, H1, I1, r1, q1⟩ => ⟨σ, H1, I1, q1⟩) I.quiet hs
def tRet (te : TE) : TS := fun D σ H => te σ H D.rt
theorem ps_ret (he : PE X e te) : PS X (.Return (some e) pos) (tRet te) := by
  intro pins s σ H D I h
  exact wpAny_Return_some (thn (he pins s σ H _ I h) fun v s1 ⟨x, H1, I1, r1, q1⟩ => ⟨x, σ, H1, I1, r1, q1⟩)
def tIfS (c : TT) (t u : TS) : TS := fun D σ H => c σ H fun b H1 => if b = true then t D σ H1 else u D σ H1
theorem ps_if {c : Expr} {a b : List Stmt} {tc : TT} (hc : PT X c tc) (ha : PSs X a t) (hb : PSs X b u) : PS X (.If c a b pos) (tIfS tc t u) := by
  intro pins s σ H D I h
  refine wpAny_If (thn (hc pins s σ H _ I h) fun d s1 hh => ?_)
  obtain ⟨H1, I1, q1⟩ := hh
  cases d with
  | true => exact ha pins s1 σ H1 D I1 q1
  | false => exact hb pins s1 σ H1 D I1 q1
end
abbrev TG := V → St → Hp → (St → Hp → Prop) → Prop
abbrev TGs := List V → St → Hp → (St → Hp → Prop) → Prop
def PG (X : Cx) (target : Expr) (t : TG) : Prop :=
  ∀ (pins : List (Addr × Obj)) (s : Shared) (σ : St) (H : Hp) (v : V) (u : Value) (Q : St → Hp → Prop), Inv X pins σ H s → RelV v u → t v σ H Q →
    wpAny (model X.prog X.w) X.A (assign target X.env u) (fun _ s' => ∃ σ' H', Inv X pins σ' H' s' ∧ Q σ' H') X.xe s
def PGs (X : Cx) (ts : List Expr) (t : TGs) : Prop :=
  ∀ (pins : List (Addr × Obj)) (s : Shared) (σ : St) (H : Hp) (vs : List V) (us : List Value) (Q : St → Hp → Prop), Inv X pins σ H s → Vals vs us → t vs σ H Q →
    wpAny (model X.prog X.w) X.A (assignInOrder ((assignEach ts X.env).map (·.2)) us) (fun _ s' => ∃ σ' H', Inv X pins σ' H' s' ∧ Q σ' H') X.xe s
abbrev TSet := V → V → V → Hp → (Hp → Prop) → Prop
def PSet (X : Cx) (t : TSet) : Prop :=
  ∀ (pins : List (Addr × Obj)) (s : Shared) (σ : St) (H : Hp) (o i v : V) (ov iv u : Value) (Q : Hp → Prop), Inv X pins σ H s → RelV o ov → RelV i iv → RelV v u → t o i v H Q →
    wpAny (model X.prog X.w) X.A (setItem ov iv u) (fun _ s' => ∃ H', Inv X pins σ H' s' ∧ Q H') X.xe s
abbrev TIp := V → V → Hp → VK → Prop
def PIp (X : Cx) (op : Operator) (t : TIp) : Prop :=
  ∀ (pins : List (Addr × Obj)) (s : Shared) (σ : St) (H : Hp) (x y : V) (v u : Value) (Q : VK), Inv X pins σ H s → RelV x v → RelV y u → t x y H Q →
    wpAny (model X.prog X.w) X.A (inplaceOp op v u) (EP X pins σ Q) X.xe s
section
variable {X : Cx} {pos : Pos}
def gName (i : Nat) : TG := fun v σ H Q => Q (σ.set i (some v)) H
theorem pg_name {i : Nat} {x : Str} (hN : X.N.Nodup) (hi : X.N[i]? = some x) (hx : Loc X.env.scope x) (hf : X.fn x = true ∨ X.env.scope.names.lookup x = some .local := by first | exact .inl rfl | exact .inr rfl | assumption) : PG X (.Name x pos) (gName i) := by
  intro pins s σ H v u Q I r h
  exact wpAny_assign_Name (store_ok I hN hi hx r (fun s' I' => ⟨_, H, I', h⟩) hf)
def gNil : TGs := fun vs σ H Q => vs = [] ∧ Q σ H
def gCons (t : TG) (u : TGs) : TGs := fun vs σ H Q => ∃ v r, vs = v :: r ∧ t v σ H fun σ' H' => u r σ' H' Q
theorem pgs_nil : PGs X [] gNil := by
  intro pins s σ H vs us Q I r h
  obtain ⟨e, h⟩ := h
  subst e
  cases r
  exact assignInOrder_nil ⟨σ, H, I, h⟩
theorem pgs_cons {e : Expr} {es : List Expr} {t : TG} {u : TGs} (h1 : PG X e t) (h2 : PGs X es u)
    (hs : (assignEach (e :: es) X.env).map (·.2) = assign e X.env :: (assignEach es X.env).map (·.2) := by rfl) : PGs X (e :: es) (gCons t u) := by
  intro pins s σ H vs us Q I r h
  obtain ⟨v, vr, e1, h⟩ := h
  subst e1
  cases r with
  | cons r rr =>
    rw [hs]
    refine assignInOrder_cons (thn (h1 pins s σ H _ _ _ I r h) fun _ s1 hh => ?_)
    obtain ⟨σ1, H1, I1, q1⟩ := hh
    exact h2 pins s1 σ1 H1 _ _ Q I1 rr q1
def gTup (K : PySem.W.Frag) (n : Nat) (t : TGs) : TG := fun v σ H Q => ∃ a xs, v = .ref a ∧ SqT K H a xs ∧ xs.length = n ∧ t xs σ H Q
theorem pg_tup {es : List Expr} {k : Nat} {t : TGs} {n : Nat} (hc : X.calm = true) (h : PGs X es t)
    (hn : (assignEach es X.env).length = n := by rfl) (hst : (assignEach es X.env).findIdx? (·.1) = none := by rfl) : PG X (.Tuple es k pos) (gTup X.K n t) := by
  intro pins s σ H v u Q I r hw
  obtain ⟨a, xs, e1, hq, hl, hw⟩ := hw
  subst e1
  cases r
  obtain ⟨its, rv, ht, hz⟩ := I.tuple hq
  refine assign_Tuple_tuple (I.ok.hd hc) ht (by simp [hn, ← hl, rv.length]) hst fun h' hx => ?_
  have I1 : Inv X pins σ H { s with heap := h' } := I.kept (t' := s.toks) fun b o e => hx b o (Nat.ne_of_lt (Heap.lt_size e)) e
  exact h pins _ σ H xs _ Q I1 (by simpa using rv) hw
def gSub (to ti : TE) (t : TSet) : TG := fun v σ H Q => to σ H fun o H1 => ti σ H1 fun i H2 => t o i v H2 fun H3 => Q σ H3
theorem pg_sub {o i : Expr} {to ti : TE} {t : TSet} (ho : PE X o to) (hi : PE X i ti) (hs : PSet X t)
    (ha : ∀ v, assign (.Subscript o i pos) X.env v = (do
      let ov ← holding [v] (eval o X.env)
      let iv ← holding [v, ov] (eval i X.env)
      standAt pos
      holding [v, ov, iv] (setItem ov iv v)
      release [v, ov, iv] []) := by intro _; rfl) : PG X (.Subscript o i pos) (gSub to ti t) := by
  intro pins s σ H v u Q I r h
  rw [ha]
  refine wpAny_bind (wpAny_holding (thn (ho pins s σ H _ I h) fun ov s1 hh => ?_))
  obtain ⟨x, H1, I1, r1, q1⟩ := hh
  refine wpAny_bind (wpAny_holding (thn (hi pins s1 σ H1 _ I1 q1) fun iv s2 hh => ?_))
  obtain ⟨y, H2, I2, r2, q2⟩ := hh
  refine wpAny_bind (wpAny_standAt (wpAny_bind (wpAny_holding (thn (hs pins s2 σ H2 x y v ov iv u _ I2 r1 r2 r q2) fun _ s3 hh => ?_))))
  obtain ⟨H3, I3, q3⟩ := hh
  exact wpAny_release ⟨σ, H3, I3, q3⟩
def tAsg (te : TE) (g : TG) : TS := fun D σ H => te σ H fun x H1 => g x σ H1 D.nx
theorem ps_asg {tg e : Expr} {te : TE} {g : TG} (he : PE X e te) (hg : PG X tg g) (hs : swapsWithSole [tg] e pos.line X.env = pure false := by rfl) (hw : swappedStores [tg] e X.env = pure none := by rfl)
    (h1 : (assignEach [tg] X.env).map (·.2) = [assign tg X.env] := by rfl) : PS X (.Assign [tg] e pos) (tAsg te g) := by
  intro pins s σ H D I h
  refine wpAny_Assign_stores (thn (he pins s σ H _ I h) fun v s1 ⟨x, H1, I1, r1, q1⟩ => ?_) hs hw
  rw [h1]
  exact thn (hg pins s1 σ H1 x v _ I1 r1 q1) fun _ s2 q => q
theorem ps_set {i : Nat} {x : Str} {e : Expr} {te : TE} {pos' : Pos} (hN : X.N.Nodup) (hi : X.N[i]? = some x) (hx : Loc X.env.scope x) (he : PE X e te) (hs : swapsWith e (some (.Name x pos')) pos.line X.env = pure false := by rfl) (hf : X.fn x = true ∨ X.env.scope.names.lookup x = some .local := by first | exact .inl rfl | exact .inr rfl | assumption) :
    PS X (.Assign [.Name x pos'] e pos) (tAsg te (gName i)) := by
  intro pins s σ H D I h
  refine wpAny_Assign_Name (thn (he pins s σ H _ I h) fun v s1 ⟨y, H1, I1, r1, q1⟩ => ?_) hs
  exact store_ok I1 hN hi hx r1 (fun s2 I2 => ⟨_, H1, I2, q1⟩) hf
end
section
variable {X : Cx} {pos : Pos}
def tWhile (c : TT) (tb : TS) : TS := fun D σ H => ∃ W : Nat → St → Hp → Prop, (∃ m, W m σ H) ∧ ∀ m σ H, W m σ H →
  c σ H fun b H1 => if b = true then ∃ N : St → Hp → Prop, (∀ σ' H', N σ' H' → ∃ m', m' < m ∧ W m' σ' H') ∧ tb { D with nx := N, ct := N, bk := D.nx } σ H1 else D.nx σ H1
theorem ps_while {c : Expr} {body : List Stmt} {tc : TT} {tb : TS} (hp : PassesOwn (model X.prog X.w) X.A X.env X.xe) (hc : PT X c tc) (hb : PSs X body tb) : PS X (.While c body [] pos) (tWhile tc tb) := by
  intro pins s σ H D I h
  obtain ⟨W, ⟨m0, w0⟩, turn⟩ := h
  refine wpAny_While (codeAny_whileLoop (fun n s' => ∃ σ' H', Inv X pins σ' H' s' ∧ W n σ' H') ?_ m0 ⟨σ, H, I, w0⟩)
  rintro n s1 ⟨σ1, H1, I1, w1⟩
  refine wpAny_passesOwn hp (thn (hc pins s1 σ1 H1 _ I1 (turn n σ1 H1 w1)) fun b s2 hh => ?_)
  obtain ⟨H2, I2, q2⟩ := hh
  cases b with
  | true =>
    obtain ⟨N, hN, q2⟩ := q2
    rw [if_pos rfl]
    refine wpAny_passesOwn hp (thn (hb pins s2 σ1 H2 _ I2 q2) fun f s3 q3 => ?_)
    cases f with
    | next =>
      obtain ⟨σ3, H3, I3, n3⟩ := q3
      obtain ⟨m', hm, w3⟩ := hN σ3 H3 n3
      exact ⟨m', hm, σ3, H3, I3, w3⟩
    | cont =>
      obtain ⟨σ3, H3, I3, n3⟩ := q3
      obtain ⟨m', hm, w3⟩ := hN σ3 H3 n3
      exact ⟨m', hm, σ3, H3, I3, w3⟩
    | brk => exact q3
    | ret v => exact q3
  | false =>
    rw [if_neg Bool.false_ne_true]
    exact wpAny_execs_nil ⟨σ1, H2, I2, q2⟩
end
structure It where
  go : Nat → Hp → Prop
  yld : Nat → Hp → V → Hp → Prop
  stop : Nat → Hp → Prop
def FpOk (X : Cx) (pins : List (Addr × Obj)) (H : Hp) (b : Addr) : Prop :=
  H b = none ∧ b ≠ X.env.locals ∧ b ∉ X.fs ∧ (b ∈ X.ex ∨ X.s₀.heap.objs.size ≤ b) ∧ (∀ x c, X.env.cells.lookup x = some c → c ≠ b) ∧ ∀ p ∈ X.pn ++ pins, p.1 ≠ b
theorem Inv.fpOk {X : Cx} {pins : List (Addr × Obj)} {σ : St} {H H' : Hp} {s : Shared} {b : Addr} (I : Inv X pins σ H s) (hb : s.heap.objs.size ≤ b) (hn : H' b = none) : FpOk X pins H' b := by
  refine ⟨hn, Nat.ne_of_gt (Nat.lt_of_lt_of_le I.lt hb), I.nofs hb, .inr (Nat.le_trans I.sz hb), fun x c e z => ?_, fun p hp z => ?_⟩
  · obtain ⟨v, q⟩ := I.cell x c e
    exact absurd (Nat.lt_of_lt_of_le q.lt (by rw [z]; exact hb)) (Nat.lt_irrefl _)
  · exact absurd (Nat.lt_of_lt_of_le (Heap.lt_size (I.pin p hp).1) (by rw [z]; exact hb)) (Nat.lt_irrefl _)
structure Turn (P : Program) (w : World) (K : PySem.W.Frag) (tg : Expr) (J : It) (fp : List Addr) (it : Addr) (tn : Nat → Heap → Prop) : Prop where
  mem : it ∈ fp
  obj : ∀ i h, tn i h → ∀ b ∈ fp, ∃ o, h.get? b = some o ∧ ∀ v, o.data ≠ .cell v
  keep : ∀ i h h', tn i h → (∀ b ∈ fp, ∀ o, h.get? b = some o → h'.get? b = some o) → tn i h'
  item : ∀ (X : Cx), X.prog = P → X.w = w → X.K = K → X.calm = true → ∀ (i : Nat) (pins : List (Addr × Obj)) (s : Shared) (σ : St) (H : Hp) (E : Value → Shared → Prop), Inv X pins σ H s → (∀ b ∈ fp, FpOk X pins H b) → tn i s.heap → J.go i H →
    wpAny (model P w) X.A (pyNext (.ref it)) (fun r s1 => ∃ u, r = some u ∧
      wpAny (model P w) X.A (letOwnedTupleGo tg (.ref it) u) (fun _ s2 => ∃ x H', Inv X pins σ H' s2 ∧ RelV x u ∧ J.yld i H x H' ∧ tn (i + 1) s2.heap ∧ ∀ b ∈ fp, H' b = none) E s1) E s
  done : ∀ (X : Cx), X.prog = P → X.w = w → X.K = K → X.calm = true → ∀ (i : Nat) (pins : List (Addr × Obj)) (s : Shared) (σ : St) (H : Hp) (E : Value → Shared → Prop), Inv X pins σ H s → (∀ b ∈ fp, FpOk X pins H b) → tn i s.heap → J.stop i H →
    wpAny (model P w) X.A (pyNext (.ref it)) (fun r s1 => r = none ∧ Inv X pins σ H s1) E s
  self : ∀ (A : Around) (i : Nat) (s : Shared) (Q : Value → Shared → Prop) (E : Value → Shared → Prop), tn i s.heap → Q (.ref it) s → wpAny (model P w) A (pyIter (.ref it)) Q E s
abbrev TI := St → Hp → (It → Hp → Prop) → Prop
def PIE (X : Cx) (pins : List (Addr × Obj)) (σ : St) (tg : Expr) (R : It → Hp → Prop) (itv : Value) (s2 : Shared) : Prop :=
  ∃ (it : Addr) (fp : List Addr) (tn : Nat → Heap → Prop) (J : It) (H' : Hp), itv = .ref it ∧ Inv X pins σ H' s2 ∧ Turn X.prog X.w X.K tg J fp it tn ∧ tn 0 s2.heap ∧ (∀ b ∈ fp, FpOk X pins H' b) ∧ R J H'
def PI (X : Cx) (tg iter : Expr) (wi : TI) : Prop :=
  ∀ (pins : List (Addr × Obj)) (s : Shared) (σ : St) (H : Hp) (R : It → Hp → Prop), Inv X pins σ H s → wi σ H R →
    wpAny (model X.prog X.w) X.A (eval iter X.env) (fun v s1 => wpAny (model X.prog X.w) X.A (pyIter v) (PIE X pins σ tg R) X.xe s1) X.xe s
theorem go_of {M : Model} {A : Around} {E : Value → Shared → Prop} {s : Shared} {tg : Expr} {it : Addr} {u : Value} {o : Obj} {n : String} {vs : Array Value} {Q : Unit → Shared → Prop} (ho : s.heap.get? it = some o) (hc : o.cls = .type n) (hd : o.data = .fields vs)
    (hn : ["enumerate", "zip", "dict_itemiterator", "dict_reverseitemiterator", "odict_iterator", "itertools.zip_longest", "itertools.pairwise"].contains n = false) (hQ : Q () s) : wpAny M A (letOwnedTupleGo tg (.ref it) u) Q E s := by
  unfold letOwnedTupleGo
  cases tg <;> first
    | exact wpAny_pure hQ
    | (cases u <;> first
        | exact wpAny_pure hQ
        | (refine wpAny_bind (wpAny_load ho ?_)
           rw [hc, hd]
           show wpAny M A (if (["enumerate", "zip", "dict_itemiterator", "dict_reverseitemiterator", "odict_iterator", "itertools.zip_longest", "itertools.pairwise"].contains n && vs[0]? == some (rawInt _)) = true then _ else _) Q E s
           rw [if_neg (by intro h; rw [hn, Bool.false_and] at h; cases h)]
           exact wpAny_pure hQ))
def Itl (K : PySem.W.Frag) (a : Addr) : It :=
  ⟨fun i H => ∃ xs x, SqL K H a xs ∧ xs[i]? = some x, fun i H x H' => H' = H ∧ ∀ xs, SqL K H a xs → xs[i]? = some x, fun i H => ∃ xs, SqL K H a xs ∧ xs.length ≤ i⟩
def Itt (K : PySem.W.Frag) (a : Addr) : It :=
  ⟨fun i H => ∃ xs x, SqT K H a xs ∧ xs[i]? = some x, fun i H x H' => H' = H ∧ ∀ xs, SqT K H a xs → xs[i]? = some x, fun i H => ∃ xs, SqT K H a xs ∧ xs.length ≤ i⟩
def Itr (lo : Int) (n : Nat) : It := ⟨fun i _ => i < n, fun i H x H' => H' = H ∧ x = .int (lo + i), fun i _ => n ≤ i⟩
theorem turn_list {P : Program} {w : World} {K : PySem.W.Frag} {tg : Expr} (a it : Addr) : Turn P w K tg (Itl K a) [it] it (fun i h => h.IsListIter it a i) where
  mem := by simp
  obj := fun i h st b hb => by
    have e : b = it := by simpa using hb
    subst e
    obtain ⟨o, e, c, d⟩ := st
    exact ⟨o, e, fun v z => by rw [d] at z; cases z⟩
  keep := fun i h h' st k => st.at fun o e => k it (by simp) o e
  item := by
    intro X hP hw hK hc i pins s σ H E I hf st hg
    subst hP hw hK
    obtain ⟨xs, x, hq, hx⟩ := hg
    obtain ⟨its, rv, p, hz⟩ := I.list hq
    obtain ⟨u, hu, ru⟩ := rv.get hx
    obtain ⟨f0, f1, f2, f3, f4, f5⟩ := hf it (by simp)
    refine wpAny_pyNext_list_item st p.isList (x := u) (by simpa using hu) fun h' st' sb => ?_
    have I1 : Inv X pins σ H { s with heap := h' } := I.turned (t' := s.toks) (fun b o hb e => (sb.2 b hb).trans e) f0 f1 f3 f4 f5
    obtain ⟨o, e, c, d⟩ := id st'
    exact ⟨u, rfl, go_of (s := { s with heap := h' }) e c d (by decide) ⟨x, H, I1, ru, ⟨rfl, fun ys hy => by rw [I.list_inj hy hq]; exact hx⟩, st', fun b hb => (hf b hb).1⟩⟩
  done := by
    intro X hP hw hK hc i pins s σ H E I hf st hg
    subst hP hw hK
    obtain ⟨xs, hq, hx⟩ := hg
    obtain ⟨its, rv, p, hz⟩ := I.list hq
    obtain ⟨f0, f1, f2, f3, f4, f5⟩ := hf it (by simp)
    have hl := rv.length
    exact wpAny_pyNext_list_end (I.ok.hd hc) st p.isList (by simp; omega) fun h' eb => ⟨rfl, I.turned (t' := s.toks) (fun b o hb e => eb b o hb e) f0 f1 f3 f4 f5⟩
  self := fun _ _ _ _ _ st h => wpAny_pyIter_listiter st h
theorem turn_tuple {P : Program} {w : World} {K : PySem.W.Frag} {tg : Expr} (a it : Addr) : Turn P w K tg (Itt K a) [it] it (fun i h => h.IsTupleIter it a i) where
  mem := by simp
  obj := fun i h st b hb => by
    have e : b = it := by simpa using hb
    subst e
    obtain ⟨o, e, c, d⟩ := st
    exact ⟨o, e, fun v z => by rw [d] at z; cases z⟩
  keep := fun i h h' st k => st.at fun o e => k it (by simp) o e
  item := by
    intro X hP hw hK hc i pins s σ H E I hf st hg
    subst hP hw hK
    obtain ⟨xs, x, hq, hx⟩ := hg
    obtain ⟨its, rv, p, hz⟩ := I.tuple hq
    obtain ⟨u, hu, ru⟩ := rv.get hx
    obtain ⟨f0, f1, f2, f3, f4, f5⟩ := hf it (by simp)
    refine wpAny_pyNext_tuple_item st (show s.heap.IsTuple a its.toArray from p) (x := u) (by simpa using hu) fun h' st' sb => ?_
    have I1 : Inv X pins σ H { s with heap := h' } := I.turned (t' := s.toks) (fun b o hb e => (sb.2 b hb).trans e) f0 f1 f3 f4 f5
    obtain ⟨o, e, c, d⟩ := id st'
    exact ⟨u, rfl, go_of (s := { s with heap := h' }) e c d (by decide) ⟨x, H, I1, ru, ⟨rfl, fun ys hy => by rw [I.tuple_inj hy hq]; exact hx⟩, st', fun b hb => (hf b hb).1⟩⟩
  done := by
    intro X hP hw hK hc i pins s σ H E I hf st hg
    subst hP hw hK
    obtain ⟨xs, hq, hx⟩ := hg
    obtain ⟨its, rv, p, hz⟩ := I.tuple hq
    obtain ⟨f0, f1, f2, f3, f4, f5⟩ := hf it (by simp)
    have hl := rv.length
    exact wpAny_pyNext_tuple_end (I.ok.hd hc) st (show s.heap.IsTuple a its.toArray from p) (by simp; omega) fun h' eb => ⟨rfl, I.turned (t' := s.toks) (fun b o hb e => eb b o hb e) f0 f1 f3 f4 f5⟩
  self := fun _ _ _ _ _ st h => wpAny_pyIter_tupleiter st h
theorem turn_range {P : Program} {w : World} {K : PySem.W.Frag} {tg : Expr} (it : Addr) (lo : Int) (n : Nat) : Turn P w K tg (Itr lo n) [it] it (fun i h => IsRangeIter h it (lo + (i : Nat) * 1) ((n : Int) - (i : Nat)) 1) where
  mem := by simp
  obj := fun i h st b hb => by
    have e : b = it := by simpa using hb
    subst e
    exact ⟨_, st, fun v z => by
      have z' : Data.fields _ = Data.cell v := z
      cases z'⟩
  keep := fun i h h' st k => k it (by simp) _ st
  item := by
    intro X hP hw hK hc i pins s σ H E I hf st hg
    subst hP hw hK
    obtain ⟨f0, f1, f2, f3, f4, f5⟩ := hf it (by simp)
    have W := Walks.range (prog := X.prog) (w := X.w) (I.ok.hd hc) it lo 1 n
    refine W.item i s _ _ hg st fun v h' tk hv st' kk => ?_
    obtain ⟨t, rfl⟩ := hv
    have I1 : Inv X pins σ H { s with heap := h', toks := tk } := I.turned (fun b o hb e => kk b o (by simpa using hb) e) f0 f1 f3 f4 f5
    refine ⟨_, rfl, go_of (s := { s with heap := h', toks := tk }) (n := "range_iterator") st' rfl rfl (by decide) ⟨.int (lo + i), H, I1, ⟨t, ?_⟩, ⟨rfl, rfl⟩, st', fun b hb => (hf b hb).1⟩⟩
    rw [Int.mul_one]
  done := by
    intro X hP hw hK hc i pins s σ H E I hf st hg
    subst hP hw hK
    obtain ⟨f0, f1, f2, f3, f4, f5⟩ := hf it (by simp)
    exact wpAny_pyNext_range_end (I.ok.hd hc) st (by have : n ≤ i := hg; omega) fun h' eb => ⟨rfl, I.turned (t' := s.toks) (fun b o hb e => eb b o hb e) f0 f1 f3 f4 f5⟩
  self := fun _ _ _ _ _ st h => wpAny_pyIter_rangeiter st h
end L2
namespace L2
open PySem PySem.Spec PyProof.Rows
section
variable {X : Cx} {tg : Expr}
theorem range_it {pins : List (Addr × Obj)} {σ : St} {H : Hp} {s : Shared} {R : It → Hp → Prop} {E : Value → Shared → Prop} {lo hi : Int} {t u v : Tok} {tk : Nat} (I : Inv X pins σ H s) (h1 : -(2 ^ 62) ≤ lo) (h2 : lo < 2 ^ 62) (h3 : -(2 ^ 62) ≤ hi) (h4 : hi < 2 ^ 62)
    (q : R (Itr lo (hi - lo).toNat) H) : wpAny (model X.prog X.w) X.A (pyIter (.ref s.heap.objs.size)) (PIE X pins σ tg R) E { s with heap := s.heap.push { cls := .type "range", data := .fields #[.int lo t, .int hi u, .int 1 v] }, toks := tk } := by
  refine wpAny_pyIter_range (IsRange.new ..) (small_one h1 h2 h3 h4) ?_
  have I1 : Inv X pins σ H { s with heap := s.heap.push { cls := .type "range", data := .fields #[.int lo t, .int hi u, .int 1 v] }, toks := tk } := I.kept fun b o e => Heap.get?_push_of_some _ e
  refine ⟨(s.heap.push { cls := .type "range", data := .fields #[.int lo t, .int hi u, .int 1 v] }).objs.size, [(s.heap.push { cls := .type "range", data := .fields #[.int lo t, .int hi u, .int 1 v] }).objs.size], _, _, H, rfl,
    I1.kept (t' := tk) fun b o e => Heap.get?_push_of_some _ e, turn_range _ lo (hi - lo).toNat, ?_, fun b hb => ?_, q⟩
  · have e1 : lo + ((0 : Nat) : Int) * 1 = lo := by simp
    have e2 : (((hi - lo).toNat : Nat) : Int) - ((0 : Nat) : Int) = Builtin.Range.rangeSize lo hi 1 := by rw [rangeSize_one]; split <;> omega
    show IsRangeIter _ _ (lo + ((0 : Nat) : Int) * 1) ((((hi - lo).toNat : Nat) : Int) - ((0 : Nat) : Int)) 1
    rw [e1, e2]
    exact Heap.get?_push_size _ rfl
  · have e : b = (s.heap.push { cls := .type "range", data := .fields #[.int lo t, .int hi u, .int 1 v] }).objs.size := by simpa using hb
    subst e
    exact I1.fpOk (Nat.le_refl _) (I1.hok.fresh (Nat.le_refl _))
def iRng1 (ta : TA) : TI := fun σ H R => ta σ H fun vs H1 => ∃ j : Int, vs = [.int j] ∧ -(2 ^ 62) ≤ j ∧ j < 2 ^ 62 ∧ R (Itr 0 j.toNat) H1
def iRng2 (ta : TA) : TI := fun σ H R => ta σ H fun vs H1 => ∃ i j : Int, vs = [.int i, .int j] ∧ (-(2 ^ 62) ≤ i ∧ i < 2 ^ 62 ∧ -(2 ^ 62) ≤ j ∧ j < 2 ^ 62) ∧ R (Itr i (j - i).toNat) H1
theorem pi_range1 {a : Expr} {ta : TA} {p pos : Pos} (hg : Gl X "range") (hm : X.mg "range" = none) (ha : PA X [a] ta) (hs : starEach [a] X.env = [(false, eval a X.env)] := by rfl) : PI X tg (.Call (.Name "range" p) [a] [] pos) (iRng1 ta) := by
  intro pins s σ H R I h
  refine Call_ (ld_blt I hg hm boot_range (PyProof.Rows.callWith_type1 (thn (ha pos pins s σ H _ I h) fun us s1 ⟨vs, H1, I1, r1, q1⟩ => ?_) hs rfl))
  obtain ⟨j, e, q1, q2, q⟩ := q1
  subst e
  cases r1 with
  | cons r rr =>
    cases rr
    obtain ⟨t, rfl⟩ := r
    exact call_range_1 (range_it I1 (by omega) (by omega) q1 q2 (by simpa using q))
theorem pi_range2 {a b : Expr} {ta : TA} {p pos : Pos} (hg : Gl X "range") (hm : X.mg "range" = none) (ha : PA X [a, b] ta) (hs : starEach [a, b] X.env = [(false, eval a X.env), (false, eval b X.env)] := by rfl) (hs2 : starEach [b] X.env = [(false, eval b X.env)] := by rfl) :
    PI X tg (.Call (.Name "range" p) [a, b] [] pos) (iRng2 ta) := by
  intro pins s σ H R I h
  refine Call_ (ld_blt I hg hm boot_range (PyProof.Rows.callWith_type1 (thn (ha pos pins s σ H _ I h) fun us s1 ⟨vs, H1, I1, r1, q1⟩ => ?_) (by rw [hs, hs2]) (by rw [hs2]; rfl)))
  obtain ⟨i, j, e, ⟨q1, q2, q3, q4⟩, q⟩ := q1
  subst e
  cases r1 with
  | cons r rr =>
    cases rr with
    | cons r' rr =>
      cases rr
      obtain ⟨t, rfl⟩ := r
      obtain ⟨t', rfl⟩ := r'
      exact call_range_2 (range_it I1 q1 q2 q3 q4 q)
def tFor (wi : TI) (g : TG) (tb : TS) : TS := fun D σ H => wi σ H fun J H1 => ∃ W : Nat → Nat → St → Hp → Prop, (∃ m, W 0 m σ H1) ∧ ∀ i m σ H, W i m σ H →
  (J.stop i H ∧ D.nx σ H) ∨ (J.go i H ∧ ∃ N : St → Hp → Prop, (∀ σ' H', N σ' H' → ∃ m', m' < m ∧ W (i + 1) m' σ' H') ∧ ∀ x H', J.yld i H x H' → g x σ H' fun σ2 H2 => tb { D with nx := N, ct := N, bk := D.nx } σ2 H2)
def pinsAt (fp : List Addr) (h : Heap) : List (Addr × Obj) := fp.filterMap fun b => (h.get? b).map fun o => (b, o)
theorem mem_pinsAt {fp : List Addr} {h : Heap} {b : Addr} {o : Obj} (hb : b ∈ fp) (e : h.get? b = some o) : (b, o) ∈ pinsAt fp h := List.mem_filterMap.mpr ⟨b, hb, by rw [e]; rfl⟩
theorem of_pinsAt {fp : List Addr} {h : Heap} {p : Addr × Obj} (hp : p ∈ pinsAt fp h) : p.1 ∈ fp ∧ h.get? p.1 = some p.2 := by
  obtain ⟨b, hb, e⟩ := List.mem_filterMap.mp hp
  cases q : h.get? b with
  | none => rw [q] at e; cases e
  | some o =>
    rw [q] at e
    have e' : (b, o) = p := Option.some.inj e
    subst e'
    exact ⟨hb, q⟩
theorem Inv.pinned {pins : List (Addr × Obj)} {σ : St} {H : Hp} {s : Shared} {fp : List Addr} (I : Inv X pins σ H s) (hf : ∀ b ∈ fp, FpOk X pins H b) (ho : ∀ b ∈ fp, ∃ o, s.heap.get? b = some o ∧ ∀ v, o.data ≠ .cell v) : Inv X (pins ++ pinsAt fp s.heap) σ H s :=
  I.pins_of fun p hp => (List.mem_append.mp hp).elim (fun z => I.pin p (List.mem_append_right _ z)) fun z => by
    obtain ⟨hb, e⟩ := of_pinsAt z
    obtain ⟨f0, f1, f2, _⟩ := hf p.1 hb
    obtain ⟨o, e', d⟩ := ho p.1 hb
    rw [e] at e'; cases e'
    exact ⟨e, f0, f1, f2, d⟩
theorem Inv.unpinned {pins pl : List (Addr × Obj)} {σ : St} {H : Hp} {s : Shared} (I : Inv X (pins ++ pl) σ H s) : Inv X pins σ H s := I.pins_of fun p hp => I.pin p (List.mem_append_right _ (List.mem_append_left _ hp))
theorem ps_for {iter : Expr} {body : List Stmt} {wi : TI} {g : TG} {tb : TS} {pos : Pos} (hp : PassesOwn (model X.prog X.w) X.A X.env X.xe) (hc : X.calm = true) (hi : PI X tg iter wi) (hg : PG X tg g) (hb : PSs X body tb)
    (hs : ∀ x, foldedSetIterable iter X.env x = pure x := by intro _; rfl) : PS X (.For tg iter body [] pos) (tFor wi g tb) := by
  intro pins s σ H D I h
  refine wpAny_For (thn (hi pins s σ H _ I h) fun v s1 h1 => thn h1 fun itv s2 h2 => ?_) hs
  obtain ⟨it, fp, tn, J, H2, e, I2, T, st2, f2, W, ⟨m0, w0⟩, turn⟩ := h2
  subst e
  -- what stays true of the iterator's objects through the loop
  have stat : ∀ {H' : Hp}, (∀ b ∈ fp, H' b = none) → ∀ b ∈ fp, FpOk X pins H' b := fun hn b hb => ⟨hn b hb, (f2 b hb).2⟩
  refine codeAny_forLoop_any (fun n s' => ∃ i σ' H', Inv X pins σ' H' s' ∧ tn i s'.heap ∧ (∀ b ∈ fp, H' b = none) ∧ W i n σ' H') ?_ m0 ⟨0, σ, H2, I2, st2, fun b hb => (f2 b hb).1, w0⟩
  rintro n s3 ⟨i, σ3, H3, I3, st3, fr3, w3⟩
  rcases turn i n σ3 H3 w3 with ⟨stop, qn⟩ | ⟨go, N, hN, step⟩
  · refine wpAny_passesOwn hp (thn (T.done X rfl rfl rfl hc i pins s3 σ3 H3 X.xe I3 (stat fr3) st3 stop) fun r s4 hh => ?_)
    obtain ⟨hr, I4⟩ := hh
    subst hr
    exact wpAny_execs_nil ⟨σ3, H3, I4, qn⟩
  · refine wpAny_passesOwn hp (thn (T.item X rfl rfl rfl hc i pins s3 σ3 H3 X.xe I3 (stat fr3) st3 go) fun r s4 hh => ?_)
    obtain ⟨u, hr, h4⟩ := hh
    subst hr
    refine wpAny_passesOwn hp (thn h4 fun _ s5 hh => ?_)
    obtain ⟨x, H5, I5, r5, y5, st5, fr5⟩ := hh
    have I5' := I5.pinned (stat fr5) (T.obj _ _ st5)
    refine wpAny_passesOwn hp (thn (hg _ s5 σ3 H5 x u _ I5' r5 (step x H5 y5)) fun _ s6 hh => ?_)
    obtain ⟨σ6, H6, I6, q6⟩ := hh
    refine wpAny_passesOwn hp (thn (hb _ s6 σ6 H6 _ I6 q6) fun f s7 q7 => ?_)
    have again : ∀ {σ7 : St} {H7 : Hp}, Inv X (pins ++ pinsAt fp s5.heap) σ7 H7 s7 → N σ7 H7 → ∃ m, m < n ∧ ∃ i σ' H', Inv X pins σ' H' s7 ∧ tn i s7.heap ∧ (∀ b ∈ fp, H' b = none) ∧ W i m σ' H' := fun {σ7 H7} I7 n7 => by
      obtain ⟨m', hm, w7⟩ := hN σ7 H7 n7
      refine ⟨m', hm, i + 1, σ7, H7, I7.unpinned, T.keep _ _ _ st5 fun b hb o e => (I7.pin (b, o) (List.mem_append_right _ (List.mem_append_right _ (mem_pinsAt hb e)))).1, fun b hb => ?_, w7⟩
      obtain ⟨o, e, d⟩ := T.obj _ _ st5 b hb
      exact (I7.pin (b, o) (List.mem_append_right _ (List.mem_append_right _ (mem_pinsAt hb e)))).2.1
    cases f with
    | next => obtain ⟨σ7, H7, I7, n7⟩ := q7; exact again I7 n7
    | cont => obtain ⟨σ7, H7, I7, n7⟩ := q7; exact again I7 n7
    | brk => obtain ⟨σ7, H7, I7, q7⟩ := q7; exact ⟨σ7, H7, I7.unpinned, q7⟩
    | ret v => obtain ⟨x7, σ7, H7, I7, r7, q7⟩ := q7; exact ⟨x7, σ7, H7, I7.unpinned, r7, q7⟩
end
theorem for_list {K : PySem.W.Frag} {a : Addr} {xs : List V} {g : TG} {tb : TS} {D : Ends} {σ : St} {H : Hp} (Pv : Nat → St → Hp → Prop) (h0 : Pv 0 σ H) (hl : ∀ i σ H, i ≤ xs.length → Pv i σ H → SqL K H a xs)
    (hs : ∀ i x σ H, xs[i]? = some x → Pv i σ H → g x σ H fun σ2 H2 => tb { D with nx := Pv (i + 1), ct := Pv (i + 1), bk := D.nx } σ2 H2) (hd : ∀ σ H, Pv xs.length σ H → D.nx σ H) :
    ∃ W : Nat → Nat → St → Hp → Prop, (∃ m, W 0 m σ H) ∧ ∀ i m σ H, W i m σ H →
      ((Itl K a).stop i H ∧ D.nx σ H) ∨ ((Itl K a).go i H ∧ ∃ N : St → Hp → Prop, (∀ σ' H', N σ' H' → ∃ m', m' < m ∧ W (i + 1) m' σ' H') ∧ ∀ x H', (Itl K a).yld i H x H' → g x σ H' fun σ2 H2 => tb { D with nx := N, ct := N, bk := D.nx } σ2 H2) := by
  refine ⟨fun i m σ H => m = xs.length - i ∧ i ≤ xs.length ∧ Pv i σ H, ⟨xs.length, by simp, Nat.zero_le _, h0⟩, ?_⟩
  rintro i m σ H ⟨rfl, hi, p⟩
  have q := hl i σ H hi p
  by_cases hlt : i < xs.length
  · refine .inr ⟨⟨xs, xs[i], q, by simp [hlt]⟩, Pv (i + 1), fun σ' H' p' => ⟨xs.length - (i + 1), by omega, rfl, hlt, p'⟩, fun x H' y => ?_⟩
    obtain ⟨e, y⟩ := y
    subst e
    exact hs i x σ _ (y xs q) p
  · have e : i = xs.length := by omega
    subst e
    exact .inl ⟨⟨xs, q, Nat.le_refl _⟩, hd σ H p⟩
theorem for_tup {K : PySem.W.Frag} {a : Addr} {xs : List V} {g : TG} {tb : TS} {D : Ends} {σ : St} {H : Hp} (Pv : Nat → St → Hp → Prop) (h0 : Pv 0 σ H) (hl : ∀ i σ H, i ≤ xs.length → Pv i σ H → SqT K H a xs)
    (hs : ∀ i x σ H, xs[i]? = some x → Pv i σ H → g x σ H fun σ2 H2 => tb { D with nx := Pv (i + 1), ct := Pv (i + 1), bk := D.nx } σ2 H2) (hd : ∀ σ H, Pv xs.length σ H → D.nx σ H) :
    ∃ W : Nat → Nat → St → Hp → Prop, (∃ m, W 0 m σ H) ∧ ∀ i m σ H, W i m σ H →
      ((Itt K a).stop i H ∧ D.nx σ H) ∨ ((Itt K a).go i H ∧ ∃ N : St → Hp → Prop, (∀ σ' H', N σ' H' → ∃ m', m' < m ∧ W (i + 1) m' σ' H') ∧ ∀ x H', (Itt K a).yld i H x H' → g x σ H' fun σ2 H2 => tb { D with nx := N, ct := N, bk := D.nx } σ2 H2) := by
  refine ⟨fun i m σ H => m = xs.length - i ∧ i ≤ xs.length ∧ Pv i σ H, ⟨xs.length, by simp, Nat.zero_le _, h0⟩, ?_⟩
  rintro i m σ H ⟨rfl, hi, p⟩
  have q := hl i σ H hi p
  by_cases hlt : i < xs.length
  · refine .inr ⟨⟨xs, xs[i], q, by simp [hlt]⟩, Pv (i + 1), fun σ' H' p' => ⟨xs.length - (i + 1), by omega, rfl, hlt, p'⟩, fun x H' y => ?_⟩
    obtain ⟨e, y⟩ := y
    subst e
    exact hs i x σ _ (y xs q) p
  · have e : i = xs.length := by omega
    subst e
    exact .inl ⟨⟨xs, q, Nat.le_refl _⟩, hd σ H p⟩
theorem for_range {lo : Int} {n : Nat} {g : TG} {tb : TS} {D : Ends} {σ : St} {H : Hp} (Pv : Nat → St → Hp → Prop) (h0 : Pv 0 σ H)
    (hs : ∀ i σ H, i < n → Pv i σ H → g (.int (lo + i)) σ H fun σ2 H2 => tb { D with nx := Pv (i + 1), ct := Pv (i + 1), bk := D.nx } σ2 H2) (hd : ∀ σ H, Pv n σ H → D.nx σ H) :
    ∃ W : Nat → Nat → St → Hp → Prop, (∃ m, W 0 m σ H) ∧ ∀ i m σ H, W i m σ H →
      ((Itr lo n).stop i H ∧ D.nx σ H) ∨ ((Itr lo n).go i H ∧ ∃ N : St → Hp → Prop, (∀ σ' H', N σ' H' → ∃ m', m' < m ∧ W (i + 1) m' σ' H') ∧ ∀ x H', (Itr lo n).yld i H x H' → g x σ H' fun σ2 H2 => tb { D with nx := N, ct := N, bk := D.nx } σ2 H2) := by
  refine ⟨fun i m σ H => m = n - i ∧ i ≤ n ∧ Pv i σ H, ⟨n, by simp, Nat.zero_le _, h0⟩, ?_⟩
  rintro i m σ H ⟨rfl, hi, p⟩
  by_cases hlt : i < n
  · refine .inr ⟨hlt, Pv (i + 1), fun σ' H' p' => ⟨n - (i + 1), by omega, rfl, hlt, p'⟩, fun x H' y => ?_⟩
    obtain ⟨e, y⟩ := y
    subst e y
    exact hs i σ _ hlt p
  · have e : i = n := by omega
    subst e
    exact .inl ⟨Nat.le_refl _, hd σ H p⟩
end L2
namespace L2
open PySem PySem.Spec PyProof.Rows
abbrev R2 := V → V → Hp → VK → Prop
def OpR (X : Cx) (f : Value → Value → Sem Value) (r : R2) : Prop :=
  ∀ (pins : List (Addr × Obj)) (s : Shared) (σ : St) (H : Hp) (x y : V) (v u : Value) (Q : VK), Inv X pins σ H s → RelV x v → RelV y u → r x y H Q →
    wpAny (model X.prog X.w) X.A (f v u) (EP X pins σ Q) X.xe s
def UnR (X : Cx) (f : Value → Sem Value) (r : V → Hp → VK → Prop) : Prop :=
  ∀ (pins : List (Addr × Obj)) (s : Shared) (σ : St) (H : Hp) (x : V) (v : Value) (Q : VK), Inv X pins σ H s → RelV x v → r x H Q →
    wpAny (model X.prog X.w) X.A (f v) (EP X pins σ Q) X.xe s
def CallR (X : Cx) (f : Value) (r : List V → Hp → VK → Prop) : Prop :=
  ∀ (pins : List (Addr × Obj)) (s : Shared) (σ : St) (H : Hp) (xs : List V) (us : List Value) (Q : VK), Inv X pins σ H s → Vals xs us → r xs H Q →
    wpAny (model X.prog X.w) X.A (call f us) (EP X pins σ Q) X.xe s
def TruR (X : Cx) (r : V → Hp → (Bool → Hp → Prop) → Prop) : Prop :=
  ∀ (pins : List (Addr × Obj)) (s : Shared) (σ : St) (H : Hp) (x : V) (v : Value) (Q : Bool → Hp → Prop), Inv X pins σ H s → RelV x v → r x H Q →
    wpAny (model X.prog X.w) X.A (truthy v) (TP X pins σ Q) X.xe s
def tOp (r : R2) (ta tb : TE) : TE := fun σ H Q => ta σ H fun x H1 => tb σ H1 fun y H2 => r x y H2 Q
def tUn (r : V → Hp → VK → Prop) (ta : TE) : TE := fun σ H Q => ta σ H fun x H1 => r x H1 Q
def rI (C : Int → Int → Prop) (g : Int → Int → V) : R2 := fun x y H Q => ∃ i j, x = .int i ∧ y = .int j ∧ C i j ∧ Q (g i j) H
def rI0 (g : Int → Int → V) : R2 := fun x y H Q => ∃ i j, x = .int i ∧ y = .int j ∧ Q (g i j) H
def rU (g : Int → V) : V → Hp → VK → Prop := fun x H Q => ∃ i, x = .int i ∧ Q (g i) H
section
variable {X : Cx} {a b c : Expr} {ta tb tc : TE} {pos : Pos}
theorem binT (ha : PE X a ta) (hb : PE X b tb) {pins : List (Addr × Obj)} {s : Shared} {σ : St} {H : Hp} {R : V → V → Hp → Prop} (I : Inv X pins σ H s)
    (h : ta σ H fun x H1 => tb σ H1 fun y H2 => R x y H2) {Q : Value → Shared → Prop} {f : Value → Value → Sem Value}
    (hf : ∀ v u s2 x y H2, Inv X pins σ H2 s2 → RelV x v → RelV y u → R x y H2 → wpAny (model X.prog X.w) X.A (f v u) Q X.xe s2) :
    wpAny (model X.prog X.w) X.A (eval a X.env) (fun v s₁ => wpAny (model X.prog X.w) X.A (eval b X.env) (fun u s₂ => wpAny (model X.prog X.w) X.A (f v u) Q X.xe s₂) X.xe s₁) X.xe s := by
  refine thn (ha pins s σ H _ I h) fun v s1 hh => ?_
  obtain ⟨x, H1, I1, r1, q1⟩ := hh
  refine thn (hb pins s1 σ H1 _ I1 q1) fun u s2 hh => ?_
  obtain ⟨y, H2, I2, r2, q2⟩ := hh
  exact hf v u s2 x y H2 I2 r1 r2 q2
theorem pe_op {op : Operator} {r : R2} (ho : OpR X (binaryOp op) r) (ha : PE X a ta) (hb : PE X b tb) : PE X (.BinOp a op b pos) (tOp r ta tb) := by
  intro pins s σ H Q I h
  exact wpAny_BinOp (binT ha hb I h fun v u s2 x y H2 I2 rx ry q => ho pins s2 σ H2 x y v u Q I2 rx ry q)
theorem pe_un {op : UnaryOp} {r : V → Hp → VK → Prop} (ho : UnR X (unaryOp op) r) (ha : PE X a ta) : PE X (.UnaryOp op a pos) (tUn r ta) := by
  intro pins s σ H Q I h
  exact UnaryOp_ (thn (ha pins s σ H _ I h) fun v s1 ⟨x, H1, I1, r1, q1⟩ => ho pins s1 σ H1 x v Q I1 r1 q1)
theorem opI {f : Value → Value → Sem Value} {C : Int → Int → Prop} {g : Int → Int → Int}
    (rule : ∀ (i j : Int) (t u : Tok) (s : Shared) (Q : Value → Shared → Prop) (E : Value → Shared → Prop), C i j → Q (.int (g i j) s.toks) { s with toks := s.toks + 1 } → wpAny (model X.prog X.w) X.A (f (.int i t) (.int j u)) Q E s) :
    OpR X f (rI C fun i j => .int (g i j)) := by
  intro pins s σ H x y v u Q I rx ry h
  obtain ⟨i, j, rfl, rfl, hc, q⟩ := h
  obtain ⟨t, rfl⟩ := rx
  obtain ⟨t', rfl⟩ := ry
  exact rule i j t t' s _ _ hc ⟨.int (g i j), H, I.tok _, ⟨_, rfl⟩, q⟩
theorem opI0 {f : Value → Value → Sem Value} {g : Int → Int → Int}
    (rule : ∀ (i j : Int) (t u : Tok) (s : Shared) (Q : Value → Shared → Prop) (E : Value → Shared → Prop), Q (.int (g i j) s.toks) { s with toks := s.toks + 1 } → wpAny (model X.prog X.w) X.A (f (.int i t) (.int j u)) Q E s) :
    OpR X f (rI0 fun i j => .int (g i j)) := by
  intro pins s σ H x y v u Q I rx ry h
  obtain ⟨i, j, rfl, rfl, q⟩ := h
  obtain ⟨t, rfl⟩ := rx
  obtain ⟨t', rfl⟩ := ry
  exact rule i j t t' s _ _ ⟨.int (g i j), H, I.tok _, ⟨_, rfl⟩, q⟩
theorem opB0 {f : Value → Value → Sem Value} {g : Int → Int → Bool}
    (rule : ∀ (i j : Int) (t u : Tok) (s : Shared) (Q : Value → Shared → Prop) (E : Value → Shared → Prop), Q (.bool (g i j)) s → wpAny (model X.prog X.w) X.A (f (.int i t) (.int j u)) Q E s) :
    OpR X f (rI0 fun i j => .bl (g i j)) := by
  intro pins s σ H x y v u Q I rx ry h
  obtain ⟨i, j, rfl, rfl, q⟩ := h
  obtain ⟨t, rfl⟩ := rx
  obtain ⟨t', rfl⟩ := ry
  exact rule i j t t' s _ _ ⟨.bl (g i j), H, I, rfl, q⟩
def CPow (i j : Int) : Prop := 0 ≤ j ∧ j ≤ 1000000 ∧ i.natAbs < 2 ^ 64
def CMul (i j : Int) : Prop := (-(2 ^ 64) < i ∧ i < 2 ^ 64) ∨ (-(2 ^ 64) < j ∧ j < 2 ^ 64)
theorem CMul.ok {i j : Int} (h : CMul i j) : IntMulOk i j := by
  rcases h with ⟨h1, h2⟩ | ⟨h1, h2⟩
  · exact .of_left (intBits_le_64 h1 h2)
  · exact .of_right (intBits_le_64 h1 h2)
theorem op_add : OpR X (binaryOp .Add) (rI0 fun i j => .int (i + j)) := opI0 fun _ _ _ _ _ _ _ q => add_int q
theorem op_sub : OpR X (binaryOp .Sub) (rI0 fun i j => .int (i - j)) := opI0 fun _ _ _ _ _ _ _ q => sub_int q
theorem op_mul : OpR X (binaryOp .Mult) (rI CMul fun i j => .int (i * j)) := opI fun _ _ _ _ _ _ _ hc q => mul_int q hc.ok
theorem op_mod : OpR X (binaryOp .Mod) (rI (fun _ j => 0 < j) fun i j => .int (i % j)) := opI fun i j _ _ _ _ _ hc q => by
  have h1 : (0 : Int) < j := hc
  exact mod_int' (by omega) (by rw [Int.fmod_eq_emod_of_nonneg i (by omega)]; exact q)
theorem op_pow : OpR X (binaryOp .Pow) (rI CPow fun i j => .int (i ^ j.toNat)) := opI fun _ _ _ _ _ _ _ hc q => pow_int_small hc.1 hc.2.1 hc.2.2 q
theorem unI {f : Value → Sem Value} {g : Int → Int}
    (rule : ∀ (i : Int) (t : Tok) (s : Shared) (Q : Value → Shared → Prop) (E : Value → Shared → Prop), Q (.int (g i) s.toks) { s with toks := s.toks + 1 } → wpAny (model X.prog X.w) X.A (f (.int i t)) Q E s) :
    UnR X f (rU fun i => .int (g i)) := by
  intro pins s σ H x v Q I rx h
  obtain ⟨i, rfl, q⟩ := h
  obtain ⟨t, rfl⟩ := rx
  exact rule i t s _ _ ⟨.int (g i), H, I.tok _, ⟨_, rfl⟩, q⟩
theorem un_neg : UnR X (unaryOp .USub) (rU fun i => .int (-i)) := unI fun _ _ _ _ _ q => neg_int q
end
def scal : V → V → Bool
  | .non, .non => true | .non, .int _ => true | .int _, .non => true | .non, .bl _ => true | .bl _, .non => true | .non, .str _ => true | .str _, .non => true
  | .int _, .int _ => true | .bl _, .bl _ => true | .str _, .str _ => true | .byt _, .byt _ => true
  | .int _, .str _ => true | .str _, .int _ => true | .bl _, .str _ => true | .str _, .bl _ => true
  | _, _ => false
def rEq : R2 := fun x y H Q => scal x y = true ∧ Q (.bl (decide (x = y))) H
def rNe : R2 := fun x y H Q => scal x y = true ∧ Q (.bl (!decide (x = y))) H
theorem dec_int {i j : Int} : decide (V.int i = V.int j) = (i == j) := by
  rw [Bool.eq_iff_iff]
  simp
theorem dec_bl {i j : Bool} : decide (V.bl i = V.bl j) = (i == j) := by
  rw [Bool.eq_iff_iff]
  simp
theorem dec_str {i j : Str} : decide (V.str i = V.str j) = (i == j) := by
  rw [Bool.eq_iff_iff]
  simp
theorem dec_byt {i j : Array UInt8} : decide (V.byt i = V.byt j) = (i.toList == j.toList) := by
  rw [Bool.eq_iff_iff]
  cases i
  cases j
  simp
section
variable {X : Cx} {a b c : Expr} {ta tb tc : TE} {pos : Pos}
theorem fin_bl {pins : List (Addr × Obj)} {σ : St} {H : Hp} {s : Shared} {Q : VK} {k k' : Bool} (I : Inv X pins σ H s) (q : Q (.bl k) H) (e : k = k') : EP X pins σ Q (.bool k') s := by
  subst e
  exact ⟨.bl k, H, I, rfl, q⟩
theorem op_eq : OpR X (compareOp .Eq) rEq := by
  intro pins s σ H x y v u Q I rx ry h
  obtain ⟨hs, q⟩ := h
  cases x with
  | non =>
    cases rx
    cases y with
    | non => cases ry; exact PySem.EqNone.eq_none_none (fin_bl I q (by simp))
    | bl j => cases ry; exact PySem.EqNone.eq_none_bool (fin_bl I q (by simp))
    | int j => obtain ⟨t', rfl⟩ := ry; exact PySem.EqNone.eq_none_int (fin_bl I q (by simp))
    | str j => obtain ⟨t', rfl⟩ := ry; exact PySem.EqNone.eq_none_str (fin_bl I q (by simp))
    | _ => exact absurd (show false = true from hs) Bool.false_ne_true
  | bl i =>
    cases rx
    cases y with
    | non => cases ry; exact PySem.EqNone.eq_bool_none (fin_bl I q (by simp))
    | bl j => cases ry; exact eq_bool (fin_bl I q dec_bl)
    | str j => obtain ⟨t', rfl⟩ := ry; exact PySem.EqMixed.eq_bool_str (fin_bl I q (by simp))
    | _ => exact absurd (show false = true from hs) Bool.false_ne_true
  | int i =>
    obtain ⟨t, rfl⟩ := rx
    cases y with
    | non => cases ry; exact PySem.EqNone.eq_int_none (fin_bl I q (by simp))
    | int j => obtain ⟨t', rfl⟩ := ry; exact eq_int (fin_bl I q dec_int)
    | str j => obtain ⟨t', rfl⟩ := ry; exact PySem.EqMixed.eq_int_str (fin_bl I q (by simp))
    | _ => exact absurd (show false = true from hs) Bool.false_ne_true
  | str i =>
    obtain ⟨t, rfl⟩ := rx
    cases y with
    | non => cases ry; exact PySem.EqNone.eq_str_none (fin_bl I q (by simp))
    | bl j => cases ry; exact PySem.EqMixed.eq_str_bool (fin_bl I q (by simp))
    | int j => obtain ⟨t', rfl⟩ := ry; exact PySem.EqMixed.eq_str_int (fin_bl I q (by simp))
    | str j => obtain ⟨t', rfl⟩ := ry; exact eq_str (fin_bl I q dec_str)
    | _ => exact absurd (show false = true from hs) Bool.false_ne_true
  | byt i =>
    obtain ⟨t, rfl⟩ := rx
    cases y with
    | byt j => obtain ⟨t', rfl⟩ := ry; exact PySem.W.eq_bytes (fin_bl I q dec_byt)
    | _ => exact absurd (show false = true from hs) Bool.false_ne_true
  | _ => cases y <;> exact absurd (show false = true from hs) Bool.false_ne_true
theorem op_ne : OpR X (compareOp .NotEq) rNe := by
  intro pins s σ H x y v u Q I rx ry h
  obtain ⟨hs, q⟩ := h
  cases x with
  | non =>
    cases rx
    cases y with
    | non => cases ry; exact PySem.EqNone.ne_none_none (fin_bl I q (by simp))
    | bl j => cases ry; exact PySem.EqNone.ne_none_bool (fin_bl I q (by simp))
    | int j => obtain ⟨t', rfl⟩ := ry; exact PySem.EqNone.ne_none_int (fin_bl I q (by simp))
    | str j => obtain ⟨t', rfl⟩ := ry; exact PySem.EqNone.ne_none_str (fin_bl I q (by simp))
    | _ => exact absurd (show false = true from hs) Bool.false_ne_true
  | bl i =>
    cases rx
    cases y with
    | non => cases ry; exact PySem.EqNone.ne_bool_none (fin_bl I q (by simp))
    | bl j => cases ry; exact ne_bool (fin_bl I q (congrArg not dec_bl))
    | str j => obtain ⟨t', rfl⟩ := ry; exact PySem.EqMixed.ne_bool_str (fin_bl I q (by simp))
    | _ => exact absurd (show false = true from hs) Bool.false_ne_true
  | int i =>
    obtain ⟨t, rfl⟩ := rx
    cases y with
    | non => cases ry; exact PySem.EqNone.ne_int_none (fin_bl I q (by simp))
    | int j => obtain ⟨t', rfl⟩ := ry; exact ne_int (fin_bl I q (congrArg not dec_int))
    | str j => obtain ⟨t', rfl⟩ := ry; exact PySem.EqMixed.ne_int_str (fin_bl I q (by simp))
    | _ => exact absurd (show false = true from hs) Bool.false_ne_true
  | str i =>
    obtain ⟨t, rfl⟩ := rx
    cases y with
    | non => cases ry; exact PySem.EqNone.ne_str_none (fin_bl I q (by simp))
    | bl j => cases ry; exact PySem.EqMixed.ne_str_bool (fin_bl I q (by simp))
    | int j => obtain ⟨t', rfl⟩ := ry; exact PySem.EqMixed.ne_str_int (fin_bl I q (by simp))
    | str j => obtain ⟨t', rfl⟩ := ry; exact ne_str (fin_bl I q (congrArg not dec_str))
    | _ => exact absurd (show false = true from hs) Bool.false_ne_true
  | byt i =>
    obtain ⟨t, rfl⟩ := rx
    cases y with
    | byt j => obtain ⟨t', rfl⟩ := ry; exact PySem.W.ne_bytes (fin_bl I q (congrArg not dec_byt))
    | _ => exact absurd (show false = true from hs) Bool.false_ne_true
  | _ => cases y <;> exact absurd (show false = true from hs) Bool.false_ne_true
theorem op_lt : OpR X (compareOp .Lt) (rI0 fun i j => .bl (decide (i < j))) := opB0 fun _ _ _ _ _ _ _ q => lt_int q
theorem op_le : OpR X (compareOp .LtE) (rI0 fun i j => .bl (decide (i ≤ j))) := opB0 fun _ _ _ _ _ _ _ q => le_int q
theorem op_gt : OpR X (compareOp .Gt) (rI0 fun i j => .bl (decide (j < i))) := opB0 fun _ _ _ _ _ _ _ q => gt_int q
theorem op_ge : OpR X (compareOp .GtE) (rI0 fun i j => .bl (decide (j ≤ i))) := opB0 fun _ _ _ _ _ _ _ q => ge_int q
theorem op_isN : OpR X (compareOp .Is) (fun x y H Q => y = .non ∧ Q (.bl (decide (x = .non))) H) := by
  intro pins s σ H x y v u Q I rx ry h
  obtain ⟨rfl, q⟩ := h
  cases ry
  refine is_none_gen (fin_bl I q ?_)
  cases x <;> first
    | (cases rx; rfl)
    | (obtain ⟨t, rfl⟩ := rx; rfl)
theorem op_notN : OpR X (compareOp .IsNot) (fun x y H Q => y = .non ∧ Q (.bl (!decide (x = .non))) H) := by
  intro pins s σ H x y v u Q I rx ry h
  obtain ⟨rfl, q⟩ := h
  cases ry
  refine isnot_none_gen (fin_bl I q ?_)
  cases x <;> first
    | (cases rx; rfl)
    | (obtain ⟨t, rfl⟩ := rx; rfl)
theorem nomark (b : Expr) {op : CmpOp} (h : op ≠ .In := by decide) (h2 : op ≠ .NotIn := by decide) : behindInMarks op b = false := by
  have e1 : (op == CmpOp.In) = false := by cases op <;> first | rfl | exact absurd rfl h
  have e2 : (op == CmpOp.NotIn) = false := by cases op <;> first | rfl | exact absurd rfl h2
  cases b <;> simp [behindInMarks, e1, e2]
theorem pe_cmpR {op : CmpOp} {r : R2} (ho : OpR X (compareOp op) r) (ha : PE X a ta) (hb : PE X b tb) (hm : behindInMarks op b = false) : PE X (.Compare a [op] [b] pos) (tOp r ta tb) := by
  intro pins s σ H Q I h
  exact wpAny_Compare1 (binT ha hb I h fun v u s2 x y H2 I2 rx ry q => ho pins s2 σ H2 x y v u Q I2 rx ry q) hm
def tTest (t : TE) : TT := fun σ H Q => t σ H fun x H' => ∃ k, x = .bl k ∧ Q k H'
theorem pt_cmpR {op : CmpOp} {r : R2} (ho : OpR X (compareOp op) r) (ha : PE X a ta) (hb : PE X b tb) (hm : behindInMarks op b = false) : PT X (.Compare a [op] [b] pos) (tTest (tOp r ta tb)) := by
  intro pins s σ H Q I h
  refine wpAny_isTrue_Compare1 (thn (ha pins s σ H _ I h) fun v s1 ⟨x, H1, I1, r1, q1⟩ => thn (hb pins s1 σ H1 _ I1 q1) fun u s2 ⟨y, H2, I2, r2, q2⟩ =>
    thn (ho pins s2 σ H2 x y v u _ I2 r1 r2 q2) fun c s3 ⟨z, H3, I3, r3, k, e, q3⟩ => ?_) hm
  subst e
  cases r3
  exact wpAny_truthy_bool ⟨H3, I3, q3⟩
def TruV (K : PySem.W.Frag) (x : V) (H : Hp) (k : Bool) : Prop :=
  match x with
  | .non => k = false
  | .bl b => k = b
  | .int i => k = (i != 0)
  | .str y => y.length ≤ sizeLine ∧ k = ((y.length : Int) != 0)
  | .byt y => y.size ≤ sizeLine ∧ k = ((y.size : Int) != 0)
  | .ref p => (∃ xs, SqL K H p xs ∧ k = !xs.isEmpty) ∨ (∃ xs, SqT K H p xs ∧ k = !xs.isEmpty) ∨ ∃ kvs, H p = some (.dK kvs) ∧ k = !kvs.isEmpty
  | _ => False
theorem isEmpty_kv {κ : Type} {kvs : List (κ × V)} {vs : List (κ × Value)} (r : KV kvs vs) : (!vs.isEmpty) = !kvs.isEmpty := by
  cases r <;> rfl
theorem isEmpty_of {xs : List V} {its : List Value} (r : Vals xs its) : (!its.toArray.isEmpty) = !xs.isEmpty := by
  cases r <;> simp
theorem line63 : (sizeLine : Nat) < 2 ^ 63 := by rw [sizeLine_eq]; decide
theorem tru_ok : TruR X (fun x H Q => ∃ k, TruV X.K x H k ∧ Q k H) := by
  intro pins s σ H x v Q I rx h
  obtain ⟨k, e, q⟩ := h
  have hl := line63
  have hs : sizeLine = 16777216 := sizeLine_eq
  cases x with
  | non =>
    cases rx
    have e' : k = false := e
    subst e'
    exact truthy_none ⟨H, I, q⟩
  | bl b =>
    cases rx
    have e' : k = b := e
    subst e'
    exact wpAny_truthy_bool ⟨H, I, q⟩
  | int i =>
    obtain ⟨t, rfl⟩ := rx
    have e' : k = (i != 0) := e
    subst e'
    exact PySem.P.truthy_int ⟨H, I, q⟩
  | str y =>
    obtain ⟨t, rfl⟩ := rx
    obtain ⟨hy, e'⟩ : y.length ≤ sizeLine ∧ k = ((y.length : Int) != 0) := e
    subst e'
    exact PySem.P.truthy_str (by omega) ⟨H, I.tok _, q⟩
  | byt y =>
    obtain ⟨t, rfl⟩ := rx
    obtain ⟨hy, e'⟩ : y.size ≤ sizeLine ∧ k = ((y.size : Int) != 0) := e
    subst e'
    exact PySem.W.truthy_bytes (by omega) ⟨H, I.tok _, q⟩
  | ref p =>
    cases rx
    have e' : (∃ xs, SqL X.K H p xs ∧ k = !xs.isEmpty) ∨ (∃ xs, SqT X.K H p xs ∧ k = !xs.isEmpty) ∨ ∃ kvs, H p = some (.dK kvs) ∧ k = !kvs.isEmpty := e
    rcases e' with ⟨xs, hx, e'⟩ | ⟨xs, hx, e'⟩ | ⟨kvs, hx, e'⟩
    · subst e'
      obtain ⟨its, r, pl, hz⟩ := I.list hx
      have hlen := r.length
      exact wpAny_truthy_list pl.isList (by simp only [List.size_toArray]; omega) ⟨H, I.tok _, by rw [isEmpty_of r]; exact q⟩
    · subst e'
      obtain ⟨its, r, pl, hz⟩ := I.tuple hx
      have hlen := r.length
      exact truthy_tuple pl (by simp only [List.size_toArray]; omega) ⟨H, I.tok _, by rw [isEmpty_of r]; exact q⟩
    · subst e'
      obtain ⟨hz, hS, vs, r, m⟩ : kvs.length ≤ sizeLine ∧ (p == sysModules) = false ∧ ∃ vs, KV kvs vs ∧ s.heap.DictOf (mixKind X.prog X.w) p vs := I.hok p _ hx
      have hlen : kvs.length = vs.length := Paired.length r
      exact wpAny_truthy_dict hS m (by omega) ⟨H, I.tok _, by rw [isEmpty_kv r]; exact q⟩
  | _ => exact (show False from e).elim
theorem pt_truth (ha : PE X a ta) (he : ∀ whole, isTrue a X.env whole = (do let v ← whole; standAt a.pos; holding [v] (truthy v))) :
    PT X a (fun σ H Q => ta σ H fun x H' => ∃ k, TruV X.K x H' k ∧ Q k H') := by
  intro pins s σ H Q I h
  exact isTrue_plain (thn (ha pins s σ H _ I h) fun v s1 ⟨x, H1, I1, r1, q1⟩ => tru_ok pins s1 σ H1 x v Q I1 r1 q1) (he _)
theorem op_add_str : OpR X (binaryOp .Add) (fun x y H Q => ∃ i j, x = .str i ∧ y = .str j ∧ i.length + j.length ≤ sizeLine ∧ Q (.str (i ++ j)) H) := by
  intro pins s σ H x y v u Q I rx ry h
  obtain ⟨i, j, rfl, rfl, hz, q⟩ := h
  obtain ⟨t, rfl⟩ := rx
  obtain ⟨t', rfl⟩ := ry
  exact add_str (fun t' tk => ⟨.str (i ++ j), H, I.tok _, ⟨_, rfl⟩, q⟩) hz
theorem vals1 {x : V} {us : List Value} (r : Vals [x] us) : ∃ u, us = [u] ∧ RelV x u := by
  cases r with
  | cons r1 r2 => cases r2; exact ⟨_, rfl, r1⟩
theorem vals2 {x y : V} {us : List Value} (r : Vals [x, y] us) : ∃ u w', us = [u, w'] ∧ RelV x u ∧ RelV y w' := by
  cases r with
  | cons r1 r2 =>
    cases r2 with
    | cons r3 r4 => cases r4; exact ⟨_, _, rfl, r1, r3⟩
theorem call_min2 (hc : X.calm = true) : CallR X (.builtin "min") (fun xs H Q => ∃ i j, xs = [.int i, .int j] ∧ Q (.int (if j < i then j else i)) H) := by
  intro pins s σ H xs us Q I r h
  obtain ⟨i, j, rfl, q⟩ := h
  obtain ⟨u, w', rfl, ⟨t, rfl⟩, ⟨t', rfl⟩⟩ := vals2 r
  refine min_two_ints (I.ok.hd hc) fun h' tk k => ⟨_, H, I.kept k, ?_, q⟩
  by_cases hj : j < i
  · rw [if_pos hj, if_pos hj]; exact ⟨_, rfl⟩
  · rw [if_neg hj, if_neg hj]; exact ⟨_, rfl⟩
theorem call_int1 : CallR X (.type "int") (fun xs H Q => (∃ i, xs = [.int i] ∧ Q (.int i) H) ∨ ∃ k, xs = [.bl k] ∧ Q (.int (if k then 1 else 0)) H) := by
  intro pins s σ H xs us Q I r h
  rcases h with ⟨i, rfl, q⟩ | ⟨k, rfl, q⟩
  · obtain ⟨u, rfl, t, rfl⟩ := vals1 r
    exact call_int_int ⟨.int i, H, I, ⟨_, rfl⟩, q⟩
  · obtain ⟨u, rfl, r1⟩ := vals1 r
    cases r1
    exact call_int_bool ⟨.int (if k then 1 else 0), H, I.tok _, ⟨_, rfl⟩, q⟩
end
end L2
namespace L2
open PySem PySem.Spec PyProof.Rows
structure ObjM (h : Heap) (x dx C : Addr) (mA : Str → Option Value) : Prop where
  obj : h.get? x = some (PySem.W.instObj C dx)
  ns : h.Ns1 dx mA
  ne : dx ≠ x
theorem lookIn_ns {h : Heap} {dx : Addr} {mA : Str → Option Value} (n : h.Ns1 dx mA) : ∃ od, h.get? dx = some od ∧ ∀ name, PySem.W.lookIn name od = some (mA name) := by
  obtain ⟨o, es, ep, ho, hd, hk, _, hm⟩ := n
  refine ⟨o, ho, fun name => ?_⟩
  have e := hm name
  unfold nsFind findBy at e
  rw [← Array.find?_toList] at e
  unfold PySem.W.lookIn
  rw [hd]
  dsimp only
  split
  · rename_i y q
    rw [q] at e
    exact congrArg some e
  · rename_i q
    rw [q] at e
    have a : es.toList.any (·.refKey) = false := by
      rw [List.any_eq_false]
      intro y hy
      obtain ⟨z, t, hkey⟩ := hk y (Array.mem_toList_iff.mp hy)
      simp [DictEntry.refKey, hkey]
    have a' : ¬ es.toList.any (·.refKey) = true := by rw [a]; exact Bool.false_ne_true
    rw [if_neg a']
    exact congrArg some e
theorem ObjM.look {h : Heap} {x dx C : Addr} {mA : Str → Option Value} (I : ObjM h x dx C mA) : ∃ od, PySem.W.InstAt h x (PySem.W.instObj C dx) C (some od) ∧ ∀ name, PySem.W.lookIn name od = some (mA name) :=
  let ⟨od, ho, hl⟩ := lookIn_ns I.ns
  ⟨od, ⟨I.obj, rfl, rfl, ho⟩, hl⟩
section
variable {prog : Program} {w : World} {A : Around} {E : Value → Shared → Prop} {s : Shared} {K : PySem.W.Frag} {x dx C f : Addr} {mA : Str → Option Value} {name : Str} {v : Value}
end
theorem RelO.some_of {v : V} {o : Option Value} (r : RelO (some v) o) : ∃ u, o = some u ∧ RelV v u := by
  cases o with
  | none => exact (show False from r).elim
  | some u => exact ⟨u, rfl, r⟩
section
variable {P : Program} {w : World} {H H' : Hp} {h h' : Heap} {a C dx : Addr} {fs fs' : List (Str × V)}
theorem ins_get (hok : HOk P w H h) (e : H a = some (.ins C dx fs)) : ∃ mA, ObjM h a dx C mA ∧ (∀ f, RelO (fs.lookup f) (mA f)) ∧ PySem.Within mA (fs.map (·.1)) ∧ fs.length ≤ 1000 ∧ H dx = some (.own a) := by
  obtain ⟨d, z, ne, ob, mA, n, r, q⟩ := (show ObjOk P w H h a (.ins C dx fs) from hok a _ e)
  exact ⟨mA, ⟨ob, n, ne⟩, r, q, z, d⟩
end
structure Cls (K : PySem.W.Frag) (C : Addr) : Prop where
  pg : PySem.W.plainGet K C Str.empty = true
  hd : PySem.W.hasDictIn K C = true
  po : PySem.W.plainOver K C = true
  sa : PySem.W.findIn K (.ref C) "__setattr__" = some (some (.builtin "object.__setattr__"))
theorem Cls.get {K : PySem.W.Frag} {C : Addr} (c : Cls K C) (f : Str) : PySem.W.plainGet K C f = true := c.pg
section
variable {X : Cx} {pins : List (Addr × Obj)} {σ : St} {H : Hp} {s : Shared} {a C dx : Addr} {fs : List (Str × V)} {f : Str} {v : V} {A : Around} {E : Value → Shared → Prop}
theorem Inv.made (I : Inv X pins σ H s) : Inv X pins σ (upd (upd H s.heap.objs.size (.own (s.heap.objs.size + 1))) (s.heap.objs.size + 1) (.ins C s.heap.objs.size []))
    { s with heap := (s.heap.push PySem.W.emptyDict).push (PySem.W.instObj C s.heap.objs.size) } := by
  have e1 : (s.heap.push PySem.W.emptyDict).get? s.heap.objs.size = some PySem.W.emptyDict := Heap.get?_push_size s.heap rfl
  have e2 : ((s.heap.push PySem.W.emptyDict).push (PySem.W.instObj C s.heap.objs.size)).get? (s.heap.objs.size + 1) = some (PySem.W.instObj C s.heap.objs.size) := by
    have := Heap.get?_push_size (s.heap.push PySem.W.emptyDict) (o := PySem.W.instObj C s.heap.objs.size) rfl
    rwa [Heap.size_push] at this
  have e3 : (s.heap.push PySem.W.emptyDict).Ns s.heap.objs.size (fun _ => none) := ⟨PySem.W.emptyDict, #[], _, e1, rfl, (fun e he => absurd he (by simp)), fun _ => rfl⟩
  have I1 := I.laid (a := s.heap.objs.size) (o := .own (s.heap.objs.size + 1)) (h' := s.heap.push PySem.W.emptyDict) (t' := s.toks) (fun b u q => Heap.get?_push_of_some _ q) (Nat.le_refl _) ⟨_, e1⟩
  refine I1.laid (a := s.heap.objs.size + 1) (o := .ins C s.heap.objs.size []) (t' := s.toks) (fun b u q => Heap.get?_push_of_some _ q) (Nat.le_of_eq (Heap.size_push _ _)) ?_
  have ne : s.heap.objs.size ≠ s.heap.objs.size + 1 := Nat.ne_of_lt (Nat.lt_succ_self _)
  refine ⟨by rw [upd_ne ne, upd_same], Nat.zero_le _, ne, e2, fun _ => none, (Heap.Ns1.of_empty e3).at fun o q => Heap.get?_push_of_some _ q, fun _ => True.intro, fun y hy => absurd rfl hy⟩
end
def InOp (X : Cx) (op : Operator) (rd : V → V → Hp → VK → Prop) : Prop :=
  ∀ (pins : List (Addr × Obj)) (s : Shared) (σ : St) (H : Hp) (x y : V) (u v : Value) (Q : VK), Inv X pins σ H s → RelV x u → RelV y v → rd x y H Q → wpAny (model X.prog X.w) X.A (inplaceOp op u v) (EP X pins σ Q) X.xe s
section
variable {X : Cx} {o e value : Expr} {f : Str} {pos pos' tpos : Pos} {ta tv : TE}
def rAdd : V → V → Hp → VK → Prop := fun x y H Q => ∃ i j, x = .int i ∧ y = .int j ∧ Q (.int (i + j)) H
def rSub : V → V → Hp → VK → Prop := fun x y H Q => ∃ i j, x = .int i ∧ y = .int j ∧ Q (.int (i - j)) H
theorem in_add : InOp X .Add rAdd := by
  rintro pins s σ H x y u v Q I rx ry ⟨i, j, rfl, rfl, q⟩
  obtain ⟨t, rfl⟩ := (show ∃ t, u = Value.int i t from rx)
  obtain ⟨t', rfl⟩ := (show ∃ t', v = Value.int j t' from ry)
  exact PyProof.Rows.iadd_int ⟨.int (i + j), H, I.tok _, ⟨_, rfl⟩, q⟩
end
section
variable {X : Cx} {pins : List (Addr × Obj)} {σ : St} {H : Hp} {s : Shared} {A : Around} {E : Value → Shared → Prop} {Q : Value → Shared → Prop} {c : Value} {b : Bool}
inductive TyOf (K : PySem.W.Frag) (H : Hp) : V → Value → Prop where
  | non : TyOf K H .non (.type "NoneType")
  | bl (x : Bool) : TyOf K H (.bl x) (.type "bool")
  | int (i : Int) : TyOf K H (.int i) (.type "int")
  | str (x : Str) : TyOf K H (.str x) (.type "str")
  | flt (x : UInt64) : TyOf K H (.flt x) (.type "float")
  | lst {a : Addr} {xs : List V} (e : H a = some (.lst xs)) : TyOf K H (.ref a) (.type "list")
  | frz {a : Addr} {o : Obj} {xs : List V} (e : H a = some (.frz o (.lst xs))) : TyOf K H (.ref a) (.type "list")
  | tup {a : Addr} {xs : List V} (e : H a = some (.tup xs)) : TyOf K H (.ref a) (.type "tuple")
  | dK {a : Addr} {kvs : List (Key × V)} (e : H a = some (.dK kvs)) : TyOf K H (.ref a) (.type "dict")
  | dT {a : Addr} {kvs : List (List Key × V)} (e : H a = some (.dT kvs)) : TyOf K H (.ref a) (.type "dict")
  | ins {a C dx : Addr} {fs : List (Str × V)} (e : H a = some (.ins C dx fs)) (cl : Cls K C) (ha : PySem.W.findIn K (.ref C) "__class__" = some (some (.builtin "object.__class__")))
      (hn : PySem.W.specialIn K (.builtin "object.__class__") "__get__" = some (some (.builtin "getset_descriptor.__get__"))) (htk : PySem.W.takesIn K (.builtin "object.__class__") = some true)
      (hm : PySem.W.mroIn K C (.type "object") = some true) : TyOf K H (.ref a) (.ref C)
theorem isinst_ok {x : V} {u t : Value} (I : Inv X pins σ H s) (rx : RelV x u) (ty : TyOf X.K H x t) (e : PySem.W.kitOne X.K t c = some b) (h : ∀ tk, Q (.bool b) { s with toks := tk }) :
    wpAny (model X.prog X.w) A (call (.builtin "isinstance") [u, c]) Q E s := by
  cases ty with
  | non => cases (show u = Value.none from rx); exact PySem.W.kia_one PySem.W.kitx_none I.kIn True.intro e (fun z => nomatch z) h
  | bl y => cases (show u = Value.bool y from rx); exact PySem.W.kia_one PySem.W.kitx_bool I.kIn True.intro e (fun z => nomatch z) h
  | int i => obtain ⟨t, q⟩ := (show ∃ t, u = Value.int i t from rx); cases q; exact PySem.W.kia_one PySem.W.kitx_int I.kIn True.intro e (fun z => nomatch z) h
  | str y => obtain ⟨t, q⟩ := (show ∃ t, u = Value.str y t from rx); cases q; exact PySem.W.kia_one PySem.W.kitx_str I.kIn True.intro e (fun z => nomatch z) h
  | flt y => obtain ⟨t, q⟩ := (show ∃ t, u = Value.float y t from rx); cases q; exact PySem.W.kia_one PySem.W.kitx_float I.kIn True.intro e (fun z => nomatch z) h
  | @lst a xs ea =>
    cases (show u = Value.ref a from rx)
    obtain ⟨_, _, n, _, h1⟩ := (show ObjOk X.prog X.w H s.heap a (.lst xs) from I.hok a _ ea)
    exact PySem.W.kia_one PySem.W.kitx_list I.kIn ⟨_, h1, rfl⟩ e (fun z => nomatch z) h
  | @frz a ob xs ea =>
    cases (show u = Value.ref a from rx)
    obtain ⟨_, _, _, n, _, h1⟩ := (show ObjOk X.prog X.w H s.heap a (.frz ob (.lst xs)) from I.hok a _ ea)
    exact PySem.W.kia_one PySem.W.kitx_list I.kIn ⟨_, h1, rfl⟩ e (fun z => nomatch z) h
  | @tup a xs ea =>
    cases (show u = Value.ref a from rx)
    obtain ⟨_, _, _, p⟩ := (show ObjOk X.prog X.w H s.heap a (.tup xs) from I.hok a _ ea)
    obtain ⟨o, h1, h2, _⟩ := p
    exact PySem.W.kia_one PySem.W.kitx_tuple I.kIn ⟨o, h1, h2⟩ e (fun z => nomatch z) h
  | @dK a kvs ea =>
    cases (show u = Value.ref a from rx)
    obtain ⟨_, _, vs, _, p⟩ := (show ObjOk X.prog X.w H s.heap a (.dK kvs) from I.hok a _ ea)
    obtain ⟨o, es, ep, h1, h2, _⟩ := p
    exact PySem.W.kia_one PySem.W.kitx_dict I.kIn ⟨o, h1, h2.1⟩ e (fun z => nomatch z) h
  | @dT a kvs ea =>
    cases (show u = Value.ref a from rx)
    obtain ⟨_, _, xs, _, o, es, ep, h1, h2, _⟩ := (show ObjOk X.prog X.w H s.heap a (.dT kvs) from I.hok a _ ea)
    exact PySem.W.kia_one PySem.W.kitx_dict I.kIn ⟨o, h1, h2.1⟩ e (fun z => nomatch z) h
  | @ins a C dx fs ea cl ha hn htk hm =>
    cases (show u = Value.ref a from rx)
    obtain ⟨mA, O, _⟩ := ins_get I.hok ea
    obtain ⟨od, J, _⟩ := O.look
    exact PySem.W.kia_one (PySem.W.kitx_own (cl.get _) cl.hd ha hn htk hm) I.kIn J e (fun z => nomatch z) h
end
end L2
namespace L2
open PySem PySem.Spec PyProof.Rows
structure Room (k : Nat) (A : Around) : Prop where
  hd : A.handled = none
  dp : A.depth + 3 * k + 5 < recursionLimit
  un : A.units + 16 * k + 200 < cLine
theorem Room.mono {j k : Nat} {A : Around} (r : Room k A) (h : j ≤ k) : Room j A := ⟨r.hd, by have := r.dp; omega, by have := r.un; omega⟩
theorem Room.deeper {k : Nat} {A : Around} (r : Room (k + 1) A) (env : Env) : Room k (A.deeper env) :=
  ⟨r.hd, by have := r.dp; show A.depth + 1 + 3 * k + 5 < _; omega, by have := r.un; show A.units + 3 + 16 * k + 200 < _; omega⟩
theorem Room.in1 {k : Nat} {A : Around} (r : Room (k + 1) A) : Room k A.in1 :=
  ⟨r.hd, by have := r.dp; show A.depth + 3 * k + 5 < _; omega, by have := r.un; show A.units + 1 + 16 * k + 200 < _; omega⟩
theorem Room.depth {k : Nat} {A : Around} (r : Room k A) : A.depth < recursionLimit := by have := r.dp; omega
theorem Room.units {k : Nat} {A : Around} (r : Room k A) : A.units + 64 < cLine := by have := r.un; omega
def tNil : TA := fun _ H Q => Q [] H
def tCons (ta : TE) (tr : TA) : TA := fun σ H Q => ta σ H fun x H1 => tr σ H1 fun xs H2 => Q (x :: xs) H2
section
variable {X : Cx} {e : Expr} {es : List Expr} {te : TE} {t : TA} {pos : Pos}
theorem pa_nil : PA X [] tNil := fun _ _ _ _ H Q I h => Calls.spliced_nil ⟨[], H, I, .nil, h⟩
theorem pa_cons (ha : PE X e te) (hr : PA X es t) (hs : starEach (e :: es) X.env = (false, eval e X.env) :: starEach es X.env := by rfl) : PA X (e :: es) (tCons te t) := by
  intro pos pins s σ H Q I h
  rw [hs]
  show wpAny _ _ (spliced ((false, eval e X.env) :: backTo pos (starEach es X.env))) _ _ s
  refine Calls.spliced_cons (thn (ha pins s σ H _ I h) fun u s1 hh => ?_)
  obtain ⟨x, H1, I1, r1, q1⟩ := hh
  exact thn (hr pos pins s1 σ H1 _ I1 q1) fun us s2 ⟨xs, H2, I2, r2, q2⟩ => ⟨x :: xs, H2, I2, .cons r1 r2, q2⟩
end
abbrev Sp := List V → Hp → VK → XK → Prop
abbrev CXT := List Env → Hp → Shared → XK → Value → Shared → Prop
structure Env0 (P : Program) (w : World) (K : PySem.W.Frag) (mg : Str → Option Value) (base : Heap) (A : Around) (outer : List Env) (s : Shared) (H : Hp) : Prop where
  frames : A.frames = some outer
  mod : Mod K mg base
  bs : ∀ b o, base.get? b = some o → s.heap.get? b = some o ∧ H b = none
  bsz : base.objs.size ≤ s.heap.objs.size
  funs : s.heap.FunFrames base outer
  frf : ∀ b ∈ frs outer, H b = none
  hok : HOk P w H s.heap
  bare : AllBare s.gens
def CE (outer : List Env) (P : Program) (w : World) (H : Hp) (s : Shared) (Q : VK) (u : Value) (s' : Shared) : Prop :=
  ∃ v H', s'.os = s.os ∧ AllBare s'.gens ∧ Un (frs outer) [] H H' s.heap s'.heap ∧ HOk P w H' s'.heap ∧ RelV v u ∧ Q v H'
def CR (CX : CXT) (outer : List Env) (P : Program) (w : World) (H : Hp) (s : Shared) (Q : VK) (E : XK) (r : Result) (s' : Shared) : Prop :=
  match r with
  | .ok (.ret u) => CE outer P w H s Q u s'
  | .ok _ => False
  | .error e => CX outer H s E e s'
structure FnOk (P : Program) (w : World) (K : PySem.W.Frag) (mg : Str → Option Value) (base : Heap) (CX : CXT) (k : Nat) (f : Addr) (fd : FuncData) (ps : List Str) (sp : Sp) : Prop where
  len : ∀ vs H Q E, sp vs H Q E → vs.length = ps.length
  run : ∀ (A : Around) (outer : List Env) (s : Shared) (H : Hp) (args : Args) (us : List Value) (vs : List V) (Q : VK) (E : XK), Room k A → Env0 P w K mg base A outer s H → BindsTo s fd args (ps.zip us) → Vals vs us → sp vs H Q E →
    codeAny (model P w) A (.call (.ref f) args) (CR CX outer P w H s Q E) s
theorem FnOk.mono {P : Program} {w : World} {K : PySem.W.Frag} {mg : Str → Option Value} {base : Heap} {CX : CXT} {j k : Nat} {f : Addr} {fd : FuncData} {ps : List Str} {sp : Sp} (F : FnOk P w K mg base CX j f fd ps sp) (h : j ≤ k) :
    FnOk P w K mg base CX k f fd ps sp := ⟨F.len, fun A outer s H args us vs Q E hr => F.run A outer s H args us vs Q E (hr.mono h)⟩
theorem Env0.in1 {P : Program} {w : World} {K : PySem.W.Frag} {mg : Str → Option Value} {base : Heap} {A : Around} {outer : List Env} {s : Shared} {H : Hp} (e : Env0 P w K mg base A outer s H) :
    Env0 P w K mg base A.in1 outer s H := ⟨e.frames, e.mod, e.bs, e.bsz, e.funs, e.frf, e.hok, e.bare⟩
section
variable {X : Cx} {pins : List (Addr × Obj)} {σ : St} {H : Hp} {s s' : Shared}
theorem Inv.env0 (I : Inv X pins σ H s) : Env0 X.prog X.w X.K X.mg X.base X.A X.stack s H :=
  ⟨I.ok.frames, I.ok.mod, I.bs, Nat.le_trans I.ok.bsz I.sz, I.stack, I.stkFree, I.hok, I.bare⟩
theorem Inv.after {Q : VK} {u : Value} (I : Inv X pins σ H s) (h : CE X.stack X.prog X.w H s Q u s') : EP X pins σ Q u s' := by
  obtain ⟨v, H', os, bare, un, hok, r, q⟩ := h
  obtain ⟨hh, g, d, t, os'⟩ := s'
  obtain rfl : os' = s.os := os
  exact ⟨v, H', I.call (h' := hh) (g' := g) (d' := d) (t' := t) (ch := []) un hok bare (fun b z => absurd z (by simp)), r, q⟩
end
def tCall (sp : Sp) (dvs : List V) (E : XK) (t : TA) : TE := fun σ H Q => t σ H fun vs H1 => sp (vs ++ dvs) H1 Q E
def Binds (K : PySem.W.Frag) (fd : FuncData) (ps : List Str) (ds : List Value) : Prop :=
  ∀ (s : Shared) (us : List Value), K.In s.heap → (us ++ ds).length = ps.length → BindsTo s fd ⟨us, []⟩ (ps.zip (us ++ ds))
theorem Binds.all {K : PySem.W.Frag} {fd : FuncData} {ps : List Str} (h : ∀ us : List Value, us.length = ps.length → bindArgs fd ⟨us, []⟩ = pure (ps.zip us)) : Binds K fd ps [] := fun s us _ hl => by
  rw [List.append_nil] at hl ⊢
  exact .of_eq (h us hl)
def Passes (CX : CXT) (X : Cx) (E : XK) : Prop := ∀ (pins : List (Addr × Obj)) (σ : St) (H : Hp) (s : Shared) (e : Value) (s' : Shared), Inv X pins σ H s → CX X.stack H s E e s' → X.xe e s'
section
variable {X : Cx} {CX : CXT} {k : Nat} {f C : Addr} {fd : FuncData} {ps : List Str} {sp : Sp} {dvs : List V} {ds : List Value} {E : XK} {x m : Str} {p pos apos : Pos} {e o : Expr} {es : List Expr} {ta : TE} {t : TA}
theorem run_fn {pins : List (Addr × Obj)} {σ : St} {H : Hp} {s : Shared} {Q : VK} {us : List Value} {vs : List V} (F : FnOk X.prog X.w X.K X.mg X.base CX k f fd ps sp) (hr : Room k X.A) (hb : Binds X.K fd ps ds) (hd : Vals dvs ds) (hx : Passes CX X E)
    (I : Inv X pins σ H s) (r : Vals vs us) (h : sp (vs ++ dvs) H Q E) : wpAny (model X.prog X.w) X.A (call (.ref f) us) (EP X pins σ Q) X.xe s := by
  have r2 : Vals (vs ++ dvs) (us ++ ds) := r.append hd
  have hl : (us ++ ds).length = ps.length := by rw [← r2.length]; exact F.len _ _ _ _ h
  refine wpAny_call (codeAny_mono (F.run X.A X.stack s H ⟨us, []⟩ (us ++ ds) (vs ++ dvs) Q E hr I.env0 (hb s us I.kIn hl) r2 h) fun r s' hq => ?_)
  cases r with
  | error e => exact hx pins σ H s e s' I hq
  | ok fl =>
    cases fl with
    | ret u => exact I.after hq
    | next => exact False.elim hq
    | brk => exact False.elim hq
    | cont => exact False.elim hq
theorem pe_call (F : FnOk X.prog X.w X.K X.mg X.base CX k f fd ps sp) (hr : Room k X.A) (hg : Gl X x) (hm : X.mg x = some (.ref f)) (hk : PySem.W.keepIn X.K (.ref f) = true) (hb : Binds X.K fd ps ds) (hd : Vals dvs ds) (hx : Passes CX X E)
    (ha : PA X (e :: es) t) (hdb : (x == ("__debug__" : Str)) = false := by decide) (he : starEach (e :: es) X.env = (false, eval e X.env) :: starEach es X.env := by rfl) (hpl : (backTo pos (starEach es X.env)).any (·.1) = false := by rfl) :
    PE X (.Call (.Name x p) (e :: es) [] pos) (tCall sp dvs E t) := by
  intro pins s σ H Q I h
  refine wpAny_Call_Name_kw (ld_glob I hg hm ?_ hdb)
  refine PySem.W.callWith_K (h₀ := X.base) I.ok.mod.kin hk (thn (ha pos pins s σ H _ I h) fun us s1 ⟨vs, H1, I1, r, q⟩ => ⟨I1.kIn, ?_⟩) he hpl
  exact run_fn F hr hb hd hx I1 r q
end
section
variable {X : Cx} {CX : CXT} {k : Nat} {f C : Addr} {fd : FuncData} {ps ks : List Str} {sp : Sp} {E : XK} {x m : Str} {p pos apos kpos : Pos} {e o : Expr} {es : List Expr} {kws : List Keyword} {te ta : TE} {t tk : TA} {nm : Option Str}
variable {g : List Value → List Value → List Value} {gV : List V → List V → List V}
end
structure FnScope (N P : List Str) (sc : Scope) : Prop where
  kind : sc.kind = .function
  co : sc.isCoroutine = false
  gen : sc.isGenerator = false
  nd : N.Nodup
  pre : N.take P.length = P
  par : ∀ x ∈ P, sc.names.lookup x = some .local ∨ sc.names.lookup x = some .cell
  nofree : ∀ y ∈ sc.names, y.2 ≠ .free
theorem bindL_out {kindOf : Str → Option NameKind} {x : Str} : ∀ {binds : List (Str × Value)} {m : Str → Option Value}, (∀ v, (x, v) ∉ binds) → bindL kindOf binds m x = m x
  | [], _, _ => rfl
  | (n, v) :: r, m, h => by
    unfold bindL
    rw [bindL_out fun w hw => h w (List.mem_cons_of_mem _ hw)]
    split
    · have : x ≠ n := by rintro rfl; exact h v List.mem_cons_self
      simp [this]
    · rfl
theorem bindC_out {kindOf : Str → Option NameKind} {x : Str} : ∀ {binds : List (Str × Value)} {m : Str → Option Value}, (∀ v, (x, v) ∉ binds) → bindC kindOf binds m x = m x
  | [], _, _ => rfl
  | (n, v) :: r, m, h => by
    unfold bindC
    rw [bindC_out fun w hw => h w (List.mem_cons_of_mem _ hw)]
    split
    · rfl
    · have : x ≠ n := by rintro rfl; exact h v List.mem_cons_self
      simp [this]
theorem bindL_get {kindOf : Str → Option NameKind} {x : Str} {v : Value} : ∀ {P : List Str} {vs : List Value} {i : Nat} {m : Str → Option Value}, P.Nodup → P[i]? = some x → vs[i]? = some v → kindOf x = some .local →
    bindL kindOf (P.zip vs) m x = some v
  | [], _, _, _, _, h, _, _ => by simp at h
  | _ :: _, [], _, _, _, _, h, _ => by simp at h
  | p :: P, w :: vs, 0, m, nd, h1, h2, hk => by
    simp at h1 h2; subst h1; subst h2
    show bindL kindOf ((p, w) :: P.zip vs) m p = _
    unfold bindL
    rw [bindL_out fun v hv => (List.nodup_cons.mp nd).1 (List.of_mem_zip hv).1, if_pos hk]
    simp
  | p :: P, w :: vs, i + 1, m, nd, h1, h2, hk => by
    show bindL kindOf ((p, w) :: P.zip vs) m x = _
    unfold bindL
    exact bindL_get (i := i) (List.nodup_cons.mp nd).2 (by simpa using h1) (by simpa using h2) hk
theorem bindC_get {kindOf : Str → Option NameKind} {x : Str} {v : Value} : ∀ {P : List Str} {vs : List Value} {i : Nat} {m : Str → Option Value}, P.Nodup → P[i]? = some x → vs[i]? = some v → kindOf x ≠ some .local →
    bindC kindOf (P.zip vs) m x = some v
  | [], _, _, _, _, h, _, _ => by simp at h
  | _ :: _, [], _, _, _, _, h, _ => by simp at h
  | p :: P, w :: vs, 0, m, nd, h1, h2, hk => by
    simp at h1 h2; subst h1; subst h2
    show bindC kindOf ((p, w) :: P.zip vs) m p = _
    unfold bindC
    rw [bindC_out fun v hv => (List.nodup_cons.mp nd).1 (List.of_mem_zip hv).1, if_neg hk]
    simp
  | p :: P, w :: vs, i + 1, m, nd, h1, h2, hk => by
    show bindC kindOf ((p, w) :: P.zip vs) m x = _
    unfold bindC
    exact bindC_get (i := i) (List.nodup_cons.mp nd).2 (by simpa using h1) (by simpa using h2) hk
def start (N : List Str) (vs : List V) : St := vs.map some ++ List.replicate (N.length - vs.length) none
def cxOf (CX : CXT) (P : Program) (w : World) (K : PySem.W.Frag) (mg : Str → Option Value) (base : Heap) (N : List Str) (qual : Str) (scope : Scope) (f : Addr) (cd : Value) (A : Around) (outer : List Env) (s : Shared) (H : Hp) (E : XK) : Cx where
  prog := P
  w := w
  K := K
  mg := mg
  base := base
  A := A.deeper (envOfC qual scope s.heap.objs.size f cd)
  N := N
  s₀ := s
  H₀ := H
  env := envOfC qual scope s.heap.objs.size f cd
  outer := outer
  stack := envOfC qual scope s.heap.objs.size f cd :: outer
  ex := []
  calm := true
  fn := fun _ => true
  pn := []
  xe := fun e s' => wpAny (model P w) (A.deeper (envOfC qual scope s.heap.objs.size f cd)) (leaving (envOfC qual scope s.heap.objs.size f cd) e) (fun _ s'' => CX outer H s E e s'') (fun e' s'' => CX outer H s E e' s'') s'
theorem cell_has {sc : Scope} {n : Nat} {x : Str} (h : sc.names.lookup x = some .cell) : ∃ c, (cellsFrom n sc.names []).lookup x = some c := by
  have q := PySem.W.cellsFrom_some sc.names n [] (.inl h)
  exact Option.isSome_iff_exists.mp q
theorem inv_start {CX : CXT} {P : Program} {w : World} {K : PySem.W.Frag} {mg : Str → Option Value} {base : Heap} {N ps : List Str} {qual : Str} {scope : Scope} {f : Addr} {cd : Value} {A : Around} {outer : List Env} {s s1 : Shared} {H : Hp} {E : XK} {us : List Value} {vs : List V}
    (S : FnScope N ps scope) (hd : A.handled = none) (e0 : Env0 P w K mg base A outer s H) (hl : vs.length = ps.length) (r : Vals vs us)
    (x : InCallC s s.heap.objs.size (bindL (envOfC qual scope s.heap.objs.size f cd).kindOf (ps.zip us) fun _ => none) (cellsFrom (s.heap.objs.size + 1) scope.names []) (bindC (envOfC qual scope s.heap.objs.size f cd).kindOf (ps.zip us) fun _ => none) s1) :
    Inv (cxOf CX P w K mg base N qual scope f cd A outer s H E) [] (start N vs) H s1 := by
  have hpl : ps.length ≤ N.length := by have := congrArg List.length S.pre; rw [List.length_take] at this; omega
  obtain ⟨h1, tk, rfl, hk⟩ := x.done
  have noA : ∀ b : Addr, b ∉ (cxOf CX P w K mg base N qual scope f cd A outer s H E).ex := fun b z => absurd (show b ∈ ([] : List Addr) from z) (by simp)
  refine ⟨⟨e0.mod, S.kind, rfl, rfl, Nat.le_refl _, fun y z c h1 h2 => ?_, fun y hy => ?_, fun y c _ h => ?_, fun _ => hd, Around.frames_deeper e0.frames, .inr ⟨rfl, rfl⟩, fun b z => absurd z (noA b), e0.bs, e0.bsz, fun b _ _ => noA b, fun b z => absurd z (noA b), e0.funs, e0.frf⟩,
    rfl, e0.bare, Un.kept hk, ⟨_, x.toInCall.ns, fun i y v h1 h2 h3 => ?_⟩, fun y c h => ⟨_, x.cell y c h⟩, e0.hok.fresh (Nat.le_refl _), fun y c h => ?_, fun p hp => absurd (show p ∈ ([] : List (Addr × Obj)) from hp) (by simp), e0.hok.kept hk, ?_⟩
  · exact name_of_addr x.apart (PySem.mem_of_lookup h1) (PySem.mem_of_lookup h2)
  · have hy : scope.names.lookup y = some .cell ∨ scope.names.lookup y = some .free := hy
    rcases hy with hy | hy
    · exact cell_has hy
    · exact absurd rfl (S.nofree _ (PySem.mem_of_lookup hy))
  · exact Nat.le_of_lt (x.above y c (PySem.mem_of_lookup h))
  · have hi : i < vs.length := by
      unfold start at h2
      by_cases hi : i < vs.length
      · exact hi
      · rw [List.getElem?_append_right (by simpa using hi)] at h2
        rw [List.getElem?_replicate] at h2
        split at h2 <;> cases h2
    have ha : vs[i]? = some v := by
      unfold start at h2
      rw [List.getElem?_append_left (by simpa using hi), List.getElem?_map] at h2
      cases e : vs[i]? with
      | none => rw [e] at h2; cases h2
      | some a => rw [e] at h2; cases h2; rfl
    obtain ⟨u, hu, rv⟩ := r.get ha
    have hp : ps[i]? = some y := by
      rw [← S.pre, List.getElem?_take_of_lt (by omega)]; exact h1
    have ndP : ps.Nodup := by rw [← S.pre]; exact S.nd.sublist (List.take_sublist _ _)
    refine ⟨u, rv, ?_⟩
    rcases S.par y (List.mem_of_getElem? hp) with k | k
    · exact .inl ⟨k, bindL_get ndP hp hu k⟩
    · obtain ⟨c, e⟩ := cell_has (n := s.heap.objs.size + 1) k
      refine .inr ⟨.inl k, c, e, ?_⟩
      have q := x.cell y c e
      rw [bindC_get ndP hp hu (by show scope.names.lookup y ≠ _; rw [k]; decide)] at q
      exact q
  · exact e0.hok.fresh (Nat.le_of_lt (x.above y c (PySem.mem_of_lookup h)))
  · unfold start
    show _ = N.length
    rw [List.length_append, List.length_map, List.length_replicate]
    omega
theorem fn_of {CX : CXT} {P : Program} {w : World} {K : PySem.W.Frag} {mg : Str → Option Value} {base : Heap} {k : Nat} {f : Addr} {name qual : Str} {params : Arguments} {body : List Stmt} {scope : Scope} {dV kV doc pm cdv ct oc : Value} {an od : Option Addr}
    {osl : Array (Option Value)} {N ps : List Str} {sp : Sp} (lk : K.lookup f = some ⟨oc, od, .func (PySem.W.fnOf name qual params body scope dV kV doc pm an cdv ct), osl⟩) (hcd : PySem.W.codeIn K cdv qual = true) (S : FnScope N ps scope)
    (len : ∀ vs H Q E, sp vs H Q E → vs.length = ps.length)
    (hbody : ∀ (A : Around) (outer : List Env) (s : Shared) (H : Hp) (vs : List V) (Q : VK) (E : XK), Room k (A.deeper (envOfC qual scope s.heap.objs.size f cdv)) → sp vs H Q E →
      ∃ t, PSs (cxOf CX P w K mg base N qual scope f cdv A outer s H E) body t ∧ t { nx := fun _ H' => Q .non H', rt := Q } (start N vs) H) :
    FnOk P w K mg base CX (k + 1) f (PySem.W.fnOf name qual params body scope dV kV doc pm an cdv ct) ps sp := by
  refine ⟨len, fun A outer s H args us vs Q E hr e0 hb r hsp => ?_⟩
  have hl := len _ _ _ _ hsp
  have KX : K.In s.heap := e0.mod.kin.keeps fun b o e => (e0.bs b o e).1
  have lim : s.heap.NoLimit := e0.mod.nolimit.keeps fun b o e => (e0.bs b o e).1
  have hkind : ∀ y ∈ ps.zip us, scope.names.lookup y.1 = some .local ∨ (scope.names.lookup y.1 = some .cell ∧ ((cellsFrom (s.heap.objs.size + 1) scope.names []).lookup y.1).isSome = true) := fun ⟨n, v⟩ hy => by
    rcases S.par n (List.of_mem_zip hy).1 with q | q
    · exact .inl q
    · exact .inr ⟨q, PySem.W.cellsFrom_some _ _ _ (.inl q)⟩
  refine codeAny_call_function hr.depth (KX _ _ lk) rfl S.co S.gen rfl (PySem.W.codeRec_of KX hcd) (hb _ _ _ _ ?_)
  refine wpAny_newFunctionEnv_cells S.kind hkind fun env he s1 x => ?_
  subst he
  refine ⟨lim.keeps x.toInCall.keep, codeAny_func ?_⟩
  obtain ⟨t, ht, hq⟩ := hbody A outer s H vs Q E (hr.deeper _) hsp
  have I : Inv (cxOf CX P w K mg base N qual scope f cdv A outer s H E) [] (start N vs) H s1 := inv_start S hr.hd e0 hl r x
  refine wpAny_mono (ht [] s1 (start N vs) H _ I hq) (fun fl s' hs => ?_) fun e s' hs => hs
  have fin : ∀ {σ' : St} {H' : Hp} {v : V} {u : Value}, Inv (cxOf CX P w K mg base N qual scope f cdv A outer s H E) [] σ' H' s' → RelV v u → Q v H' → CE outer P w H s Q u s' :=
    fun {σ' H' v u} J rv q => ⟨v, H', J.os, J.bare, J.base, J.hok, rv, q⟩
  cases fl with
  | ret u =>
    obtain ⟨v, σ', H', J, rv, q⟩ := hs
    exact fin J rv q
  | next =>
    obtain ⟨σ', H', J, q⟩ := hs
    exact fin (v := V.non) (u := Value.none) J rfl q
  | brk =>
    obtain ⟨_, _, _, q⟩ := hs
    exact False.elim q
  | cont =>
    obtain ⟨_, _, _, q⟩ := hs
    exact False.elim q
end L2
namespace L2
open PySem PySem.Spec PyProof.Rows
section
variable {X : Cx} {x : Str} {p pos : Pos} {e : Expr} {es : List Expr} {t : TA} {id T : String} {r : List V → Hp → VK → Prop}
def tCB (r : List V → Hp → VK → Prop) (t : TA) : TE := fun σ H Q => t σ H fun vs H1 => r vs H1 Q
theorem pe_callB (hc : CallR X (.builtin id) r) (hg : Gl X x) (hm : X.mg x = none) (hv : bootBuiltins x = some (.builtin id)) (ha : PA X (e :: es) t) (hn : x ≠ "__name__" := by decide) (hdb : (x == ("__debug__" : Str)) = false := by decide)
    (he : starEach (e :: es) X.env = (false, eval e X.env) :: starEach es X.env := by rfl) (hpl : (backTo pos (starEach es X.env)).any (·.1) = false := by rfl) : PE X (.Call (.Name x p) (e :: es) [] pos) (tCB r t) := by
  intro pins s σ H Q I h
  refine wpAny_Call_Name_kw (ld_blt I hg hm hv ?_ hn hdb)
  exact PyProof.Rows.callWith_builtin1 (thn (ha pos pins s σ H _ I h) fun us s1 ⟨vs, H1, I1, r1, q1⟩ => hc pins s1 σ H1 vs us Q I1 r1 q1) he hpl
theorem pe_callTy (hc : CallR X (.type T) r) (hg : Gl X x) (hm : X.mg x = none) (hv : bootBuiltins x = some (.type T)) (ha : PA X (e :: es) t) (hn : x ≠ "__name__" := by decide) (hdb : (x == ("__debug__" : Str)) = false := by decide)
    (he : starEach (e :: es) X.env = (false, eval e X.env) :: starEach es X.env := by rfl) (hpl : (backTo pos (starEach es X.env)).any (·.1) = false := by rfl) : PE X (.Call (.Name x p) (e :: es) [] pos) (tCB r t) := by
  intro pins s σ H Q I h
  refine wpAny_Call_Name_kw (ld_blt I hg hm hv ?_ hn hdb)
  exact PyProof.Rows.callWith_type1 (thn (ha pos pins s σ H _ I h) fun us s1 ⟨vs, H1, I1, r1, q1⟩ => hc pins s1 σ H1 vs us Q I1 r1 q1) he hpl
end
end L2
namespace L2
open PySem PySem.Spec PyProof.Rows
section
variable {κ : Type} [DecidableEq κ]
def valV (kvs : List (κ × V)) (k : κ) : Option V := (kvs.find? fun kv => decide (kv.1 = k)).map (·.2)
def putK (kvs : List (κ × V)) (k : κ) (v : V) : List (κ × V) :=
  if (kvs.any fun kv => decide (kv.1 = k)) = true then kvs.map (fun kv => if kv.1 = k then (kv.1, v) else kv) else kvs ++ [(k, v)]
def dropK (kvs : List (κ × V)) (k : κ) : List (κ × V) := kvs.filter fun kv => decide (kv.1 ≠ k)
theorem valV_pos {p : κ × V} {r : List (κ × V)} {k : κ} (e : p.1 = k) : valV (p :: r) k = some p.2 := by simp [valV, List.find?_cons, e]
theorem valV_neg {p : κ × V} {r : List (κ × V)} {k : κ} (e : ¬ p.1 = k) : valV (p :: r) k = valV r k := by simp [valV, List.find?_cons, e]
theorem valV_any (k : κ) : ∀ kvs : List (κ × V), (kvs.any fun kv => decide (kv.1 = k)) = (valV kvs k).isSome
  | [] => rfl
  | p :: r => by
    rw [List.any_cons]
    by_cases e : p.1 = k
    · simp only [valV_pos e, decide_eq_true e, Bool.true_or, Option.isSome_some]
    · rw [valV_neg e, decide_eq_false e, Bool.false_or]; exact valV_any k r
theorem valV_map (k j : κ) (y : V) : ∀ kvs : List (κ × V), valV (kvs.map fun kv => if kv.1 = k then (kv.1, y) else kv) j = (valV kvs j).map fun x => if j = k then y else x
  | [] => rfl
  | p :: r => by
    have ih := valV_map k j y r
    rw [List.map_cons]
    by_cases h : p.1 = k
    · rw [if_pos h]
      by_cases e : p.1 = j
      · rw [valV_pos (p := (p.1, y)) e, valV_pos e, Option.map_some, if_pos (e.symm.trans h)]
      · rw [valV_neg (p := (p.1, y)) e, valV_neg e, ih]
    · rw [if_neg h]
      by_cases e : p.1 = j
      · rw [valV_pos (p := p) e, valV_pos e, Option.map_some, if_neg (fun z => h (e.trans z))]
      · rw [valV_neg (p := p) e, valV_neg e, ih]
theorem valV_snoc (k j : κ) (y : V) : ∀ kvs : List (κ × V), valV kvs k = none → valV (kvs ++ [(k, y)]) j = if j = k then some y else valV kvs j
  | [], _ => by
    by_cases e : k = j
    · rw [if_pos e.symm]; exact valV_pos (p := (k, y)) e
    · rw [if_neg (fun z => e z.symm)]; exact valV_neg (p := (k, y)) e
  | p :: r, hn => by
    rw [List.cons_append]
    have hk : ¬ p.1 = k := fun z => by rw [valV_pos z] at hn; cases hn
    rw [valV_neg hk] at hn
    have ih := valV_snoc k j y r hn
    by_cases e : p.1 = j
    · rw [valV_pos e, valV_pos e, if_neg (fun z => hk (e.trans z))]
    · rw [valV_neg e, valV_neg e, ih]
theorem valV_put (kvs : List (κ × V)) (k j : κ) (y : V) : valV (putK kvs k y) j = if j = k then some y else valV kvs j := by
  unfold putK
  by_cases a : (kvs.any fun kv => decide (kv.1 = k)) = true
  · rw [if_pos a, valV_map]
    rw [valV_any] at a
    by_cases e : j = k
    · obtain ⟨x, hx⟩ := Option.isSome_iff_exists.mp a
      rw [if_pos e, e, hx, Option.map_some, if_pos rfl]
    · rw [if_neg e]
      cases valV kvs j with
      | none => rfl
      | some x => rw [Option.map_some, if_neg e]
  · rw [if_neg a]
    refine valV_snoc k j y kvs ?_
    rw [valV_any] at a
    cases q : valV kvs k with
    | none => rfl
    | some x => rw [q] at a; exact (a rfl).elim
theorem length_putK (kvs : List (κ × V)) (k : κ) (v : V) : (putK kvs k v).length ≤ kvs.length + 1 := by
  unfold putK
  split
  · rw [List.length_map]; omega
  · rw [List.length_append, List.length_cons, List.length_nil]; omega
theorem putK_new {kvs : List (κ × V)} {k : κ} (v : V) (h : valV kvs k = none) : putK kvs k v = kvs ++ [(k, v)] := by
  unfold putK
  rw [valV_any, h]
  exact if_neg (by decide)
theorem RelO.isSome_eq {o : Option V} {u : Option Value} (r : RelO o u) : o.isSome = u.isSome := by
  cases o with
  | none => cases u with
    | none => rfl
    | some _ => exact (show False from r).elim
  | some _ => cases u with
    | none => exact (show False from r).elim
    | some _ => rfl
theorem RelO.getD {o : Option V} {u : Option Value} {d : V} {d' : Value} (r : RelO o u) (rd : RelV d d') : RelV (o.getD d) (u.getD d') := by
  cases o with
  | none => cases u with
    | none => exact rd
    | some _ => exact (show False from r).elim
  | some _ => cases u with
    | none => exact (show False from r).elim
    | some _ => exact r
theorem KV.val {kvs : List (κ × V)} {vs : List (κ × Value)} (r : KV kvs vs) (k : κ) : RelO (valV kvs k) (valueAt vs k) := by
  unfold KV at r
  induction r with
  | nil => exact True.intro
  | @cons p q ps qs h t ih =>
    obtain ⟨h1, h2⟩ := h
    by_cases e : p.1 = k
    · have e' : q.1 = k := h1.symm.trans e
      have b : valueAt (q :: qs) k = some q.2 := by simp [valueAt, List.find?_cons, e']
      rw [valV_pos e, b]; exact h2
    · have e' : ¬ q.1 = k := fun z => e (h1.trans z)
      have b : valueAt (q :: qs) k = valueAt qs k := by simp [valueAt, List.find?_cons, e']
      rw [valV_neg e, b]; exact ih
theorem KV.any {kvs : List (κ × V)} {vs : List (κ × Value)} (r : KV kvs vs) (k : κ) : (kvs.any fun kv => decide (kv.1 = k)) = vs.any fun kv => decide (kv.1 = k) := by
  unfold KV at r
  induction r with
  | nil => rfl
  | cons h t ih => rw [List.any_cons, List.any_cons, ih, h.1]
theorem KV.repl {kvs : List (κ × V)} {vs : List (κ × Value)} (r : KV kvs vs) (k : κ) {y : V} {u : Value} (ry : RelV y u) :
    KV (kvs.map fun kv => if kv.1 = k then (kv.1, y) else kv) (vs.map fun kv => if kv.1 = k then (kv.1, u) else kv) := by
  unfold KV at r ⊢
  induction r with
  | nil => exact .nil
  | @cons p q ps qs h t ih =>
    rw [List.map_cons, List.map_cons]
    refine .cons ?_ ih
    obtain ⟨h1, h2⟩ := h
    by_cases e : p.1 = k
    · rw [if_pos e, if_pos (h1.symm.trans e)]; exact ⟨h1, ry⟩
    · rw [if_neg e, if_neg (fun z => e (h1.trans z))]; exact ⟨h1, h2⟩
theorem KV.put {kvs : List (κ × V)} {vs : List (κ × Value)} (r : KV kvs vs) (k : κ) {y : V} {u : Value} (ry : RelV y u) : KV (putK kvs k y) (stored vs k u) := by
  unfold putK stored
  rw [r.any k]
  by_cases e : (vs.any fun kv => decide (kv.1 = k)) = true
  · rw [if_pos e, if_pos e]; exact r.repl k ry
  · rw [if_neg e, if_neg e]; exact Paired.snoc r ⟨rfl, ry⟩
theorem KV.drop {kvs : List (κ × V)} {vs : List (κ × Value)} (r : KV kvs vs) (k : κ) : KV (dropK kvs k) (without vs k) := by
  unfold KV at r ⊢
  unfold dropK without
  induction r with
  | nil => exact .nil
  | @cons p q ps qs h t ih =>
    obtain ⟨h1, h2⟩ := h
    rw [List.filter_cons, List.filter_cons]
    by_cases e : p.1 = k
    · have a : ¬ decide (p.1 ≠ k) = true := by simp [e]
      have b : ¬ decide (q.1 ≠ k) = true := by simp [h1.symm.trans e]
      rw [if_neg a, if_neg b]; exact ih
    · have e' : ¬ q.1 = k := fun z => e (h1.trans z)
      have a : decide (p.1 ≠ k) = true := by simp [e]
      have b : decide (q.1 ≠ k) = true := by simp [e']
      rw [if_pos a, if_pos b]; exact .cons ⟨h1, h2⟩ ih
theorem KV.keys {kvs : List (κ × V)} {vs : List (κ × Value)} (r : KV kvs vs) : kvs.map (·.1) = vs.map (·.1) := by
  unfold KV at r
  induction r with
  | nil => rfl
  | cons h t ih => rw [List.map_cons, List.map_cons, ih, h.1]
theorem KV.length {kvs : List (κ × V)} {vs : List (κ × Value)} (r : KV kvs vs) : kvs.length = vs.length := Paired.length r
theorem dropK_le (kvs : List (κ × V)) (k : κ) : (dropK kvs k).length ≤ kvs.length := List.length_filter_le _ _
end
theorem kV_is {P : Program} {w : World} {k : Key} {u : Value} (r : RelV (kV k) u) : (mixKind P w).is k u = true := by
  cases k with
  | inl i => obtain ⟨t, e⟩ := (show ∃ t, u = Value.int i t from r); subst e; exact mixKind_int P w i t
  | inr x => obtain ⟨t, e⟩ := (show ∃ t, u = Value.str x t from r); subst e; exact mixKind_str P w x t
theorem items_are {P : Program} {w : World} : ∀ {ks : List Key} {us : List Value}, Vals (ks.map kV) us → ItemsAre (mixKind P w) ks us
  | [], _, r => by rw [List.map_nil] at r; cases r; exact .nil
  | k :: ks, _, r => by
    rw [List.map_cons] at r
    cases r with
    | cons h t => exact .cons (kV_is h) (items_are t)
abbrev KT (H : Hp) : List (List Key × V) → List (List Key × Addr × Value) → Prop := Paired fun p q => p.1 = q.1 ∧ H q.2.1 = some (.tup (p.1.map kV)) ∧ RelV p.2 q.2.2
theorem KT.val {H : Hp} {kvs : List (List Key × V)} {xs : List (List Key × Addr × Value)} (r : KT H kvs xs) (k : List Key) : RelO (valV kvs k) ((atKey xs k).map (·.2)) := by
  induction r with
  | nil => exact True.intro
  | @cons p q ps qs h t ih =>
    obtain ⟨h1, _, h2⟩ := h
    by_cases e : p.1 = k
    · have e' : q.1 = k := h1.symm.trans e
      have b : atKey (q :: qs) k = some q.2 := by simp [atKey, List.find?_cons, e']
      rw [valV_pos e, b]; exact h2
    · have e' : ¬ q.1 = k := fun z => e (h1.trans z)
      have b : atKey (q :: qs) k = atKey qs k := by simp [atKey, List.find?_cons, e']
      rw [valV_neg e, b]; exact ih
theorem KT.repl {H : Hp} {kvs : List (List Key × V)} {xs : List (List Key × Addr × Value)} (r : KT H kvs xs) (k : List Key) {y : V} {u : Value} (ry : RelV y u) :
    KT H (kvs.map fun kv => if kv.1 = k then (kv.1, y) else kv) (xs.map (putAt k u)) := by
  induction r with
  | nil => exact .nil
  | @cons p q ps qs h t ih =>
    rw [List.map_cons, List.map_cons]
    refine .cons ?_ ih
    obtain ⟨h1, h2, h3⟩ := h
    unfold putAt
    by_cases e : p.1 = k
    · rw [if_pos e, if_pos (h1.symm.trans e)]; exact ⟨h1, h2, ry⟩
    · rw [if_neg e, if_neg (fun z => e (h1.trans z))]; exact ⟨h1, h2, h3⟩
theorem KT.put {H : Hp} {kvs : List (List Key × V)} {xs : List (List Key × Addr × Value)} (r : KT H kvs xs) (k : List Key) {b : Addr} {y : V} {u : Value} (hb : H b = some (.tup (k.map kV))) (ry : RelV y u) :
    KT H (putK kvs k y) (storedH xs k b u) := by
  have e : (kvs.any fun kv => decide (kv.1 = k)) = (atKey xs k).isSome := by
    rw [valV_any, (r.val k).isSome_eq, Option.isSome_map]
  unfold putK storedH
  rw [e]
  by_cases q : (atKey xs k).isSome = true
  · rw [if_pos q, if_pos q]; exact r.repl k ry
  · rw [if_neg q, if_neg q]; exact Paired.snoc r ⟨rfl, hb, ry⟩
theorem KT.keeps {H H' : Hp} {kvs : List (List Key × V)} {xs : List (List Key × Addr × Value)} (r : KT H kvs xs) (ht : ∀ b ys, H b = some (.tup ys) → H' b = some (.tup ys)) : KT H' kvs xs :=
  Paired.mapP r fun _ _ z => ⟨z.1, ht _ _ z.2.1, z.2.2⟩
section
variable {P : Program} {w : World} {H : Hp} {h : Heap} {a : Addr}
theorem rd_of {u : HO} (ok : HOk P w H h) (e : Rd H a u) : ObjOk P w H h a u := e.ok ok
theorem dk_rd {kvs : List (Key × V)} (ok : HOk P w H h) (e : Rd H a (.dK kvs)) : kvs.length ≤ sizeLine ∧ (a == sysModules) = false ∧ ∃ vs, KV kvs vs ∧ h.DictOf (mixKind P w) a vs :=
  show ObjOk P w H h a (.dK kvs) from rd_of ok e
theorem dk_of {kvs : List (Key × V)} (ok : HOk P w H h) (e : H a = some (.dK kvs)) : kvs.length ≤ sizeLine ∧ (a == sysModules) = false ∧ ∃ vs, KV kvs vs ∧ h.DictOf (mixKind P w) a vs := dk_rd ok (.inl e)
theorem key_of {ks : List Key} (ok : HOk P w H h) (e : H a = some (.tup (ks.map kV))) : (tupleKind (mixKind P w)).is h ks a := by
  obtain ⟨_, its, r, o, h1, h2, n, h3⟩ := (show ObjOk P w H h a (.tup (ks.map kV)) from ok a _ e)
  exact ⟨o, its.toArray, n, h1, h2, h3, by simpa using items_are r⟩
theorem dt_rd {kvs : List (List Key × V)} (ok : HOk P w H h) (e : Rd H a (.dT kvs)) : kvs.length ≤ sizeLine ∧ (a == sysModules) = false ∧
    ∃ xs, KT H kvs xs ∧ h.DictOfH (tupleKind (mixKind P w)) a xs := by
  obtain ⟨z, y, xs, r, o, es, ep, h1, h2, h3, h4, h5⟩ := (show ObjOk P w H h a (.dT kvs) from rd_of ok e)
  refine ⟨z, y, xs, r, o, es, ep, h1, h2, h3, h4, fun x hx => ?_, h5⟩
  have all : ∀ {l : List (List Key × V)} {m : List (List Key × Addr × Value)}, KT H l m → ∀ x ∈ m, (tupleKind (mixKind P w)).is h x.1 x.2.1 := by
    intro l m q
    induction q with
    | nil => intro x hx; exact nomatch hx
    | @cons p q ps qs hq t ih =>
      intro x hx
      rcases List.mem_cons.mp hx with e | hx
      · subst e
        exact key_of ok (by rw [← hq.1]; exact hq.2.1)
      · exact ih x hx
  exact all r x hx
theorem dt_of {kvs : List (List Key × V)} (ok : HOk P w H h) (e : H a = some (.dT kvs)) : kvs.length ≤ sizeLine ∧ (a == sysModules) = false ∧
    ∃ xs, KT H kvs xs ∧ h.DictOfH (tupleKind (mixKind P w)) a xs := dt_rd ok (.inl e)
end
def DGet (H : Hp) (a : Addr) (y : V) (r : Option V) : Prop :=
  (∃ kvs k, Rd H a (.dK kvs) ∧ y = kV k ∧ r = valV kvs k) ∨ ∃ kvs k b, Rd H a (.dT kvs) ∧ y = .ref b ∧ H b = some (.tup (k.map kV)) ∧ r = valV kvs k
def DPut (H : Hp) (a : Addr) (y v : V) (H' : Hp) : Prop :=
  (∃ kvs k, H a = some (.dK kvs) ∧ y = kV k ∧ kvs.length < sizeLine ∧ H' = upd H a (.dK (putK kvs k v))) ∨
  ∃ kvs k b, H a = some (.dT kvs) ∧ y = .ref b ∧ H b = some (.tup (k.map kV)) ∧ kvs.length < sizeLine ∧ H' = upd H a (.dT (putK kvs k v))
theorem DGet.k {H : Hp} {a : Addr} {kvs : List (Key × V)} {k : Key} (e : H a = some (.dK kvs)) : DGet H a (kV k) (valV kvs k) := .inl ⟨kvs, k, .inl e, rfl, rfl⟩
theorem DGet.t {H : Hp} {a b : Addr} {kvs : List (List Key × V)} {k : List Key} (e : H a = some (.dT kvs)) (eb : H b = some (.tup (k.map kV))) : DGet H a (.ref b) (valV kvs k) := .inr ⟨kvs, k, b, .inl e, rfl, eb, rfl⟩
theorem DPut.k {H : Hp} {a : Addr} {kvs : List (Key × V)} {k : Key} {v : V} (e : H a = some (.dK kvs)) (hl : kvs.length < sizeLine) : DPut H a (kV k) v (upd H a (.dK (putK kvs k v))) := .inl ⟨kvs, k, e, rfl, hl, rfl⟩
theorem DPut.t {H : Hp} {a b : Addr} {kvs : List (List Key × V)} {k : List Key} {v : V} (e : H a = some (.dT kvs)) (eb : H b = some (.tup (k.map kV))) (hl : kvs.length < sizeLine) :
    DPut H a (.ref b) v (upd H a (.dT (putK kvs k v))) := .inr ⟨kvs, k, b, e, rfl, eb, hl, rfl⟩
section
variable {X : Cx} {pins : List (Addr × Obj)} {σ : St} {H : Hp} {s : Shared} {a : Addr} {y v : V} {u r : Value} {o : Option V} {A : Around} {E : Value → Shared → Prop}
theorem Inv.big (I : Inv X pins σ H s) : sysModules < s.heap.objs.size := by
  have h : mainGlobals < s.heap.objs.size := (I.mod.glob.keeps I.bk).lt
  exact Nat.lt_trans (by decide) h
theorem d_getItem {Q : Value → Shared → Prop} (hu : A.units + 1 < cLine) (I : Inv X pins σ H s) (g : DGet H a y (some v)) (ry : RelV y u) (h : ∀ w' s', Inv X pins σ H s' → RelV v w' → Q w' s') :
    wpAny (model X.prog X.w) A (getItem (.ref a) u) Q E s := by
  rcases g with ⟨kvs, k, e, ey, l⟩ | ⟨kvs, k, b, e, ey, eb, l⟩
  · subst ey
    obtain ⟨z, hd, vs, rel, dd⟩ := dk_rd I.hok e
    obtain ⟨w', hw, rw'⟩ := RelO.some_of (v := v) (o := valueAt vs k) (by rw [l]; exact rel.val k)
    exact wpAny_getItem_of (kV_is ry) dd.mapOf hw (h w' _ (I.tok _) rw')
  · subst ey
    cases (show u = Value.ref b from ry)
    obtain ⟨z, hd, xs, rel, dd⟩ := dt_rd I.hok e
    obtain ⟨w', hw, rw'⟩ := RelO.some_of (v := v) (o := (atKey xs k).map (·.2)) (by rw [l]; exact rel.val k)
    obtain ⟨p, hp, hp2⟩ := Option.map_eq_some_iff.mp hw
    refine wpAny_getItem_heap (tupleKind_room_in1 hu) (key_of I.hok eb) dd hp ?_
    rw [hp2]
    exact h w' _ (I.tok _) rw'
theorem d_in {Q : Value → Shared → Prop} (hu : A.units + 1 < cLine) (I : Inv X pins σ H s) (g : DGet H a y o) (ry : RelV y u) (h : ∀ s', Inv X pins σ H s' → Q (.bool o.isSome) s') :
    wpAny (model X.prog X.w) A (compareOp .In u (.ref a)) Q E s := by
  rcases g with ⟨kvs, k, e, ey, l⟩ | ⟨kvs, k, b, e, ey, eb, l⟩
  · subst ey
    obtain ⟨z, hd, vs, rel, dd⟩ := dk_rd I.hok e
    refine wpAny_in_of (kV_is ry) hd dd.mapOf ?_
    rw [← (rel.val k).isSome_eq, ← l]
    exact h _ (I.tok _)
  · subst ey
    cases (show u = Value.ref b from ry)
    obtain ⟨z, hd, xs, rel, dd⟩ := dt_rd I.hok e
    refine wpAny_in_heap (tupleKind_room_in1 hu) (key_of I.hok eb) hd dd ?_
    have q := (rel.val k).isSome_eq
    rw [Option.isSome_map] at q
    rw [← q, ← l]
    exact h _ (I.tok _)
theorem d_write {h' : Heap} {t' : Nat} {ob : HO} (I : Inv X pins σ H s) (mu : Mut (H a)) (hs : Heap.SameBut a s.heap h') (he : ∃ q, h'.get? a = some q) (new : ObjOk X.prog X.w (upd H a ob) h' a ob) :
    Inv X pins σ (upd H a ob) { s with heap := h', toks := t' } :=
  I.write (x := a) (e := a) mu (.inl rfl) (fun b q hb z => (hs.2 b hb).trans z) he new
theorem dk_new {P : Program} {w : World} {H' : Hp} {h' : Heap} {kvs : List (Key × V)} {vs : List (Key × Value)} (z : kvs.length ≤ sizeLine) (hd : (a == sysModules) = false) (rel : KV kvs vs) (dd : h'.DictOf (mixKind P w) a vs) :
    ObjOk P w H' h' a (.dK kvs) := ⟨z, hd, vs, rel, dd⟩
theorem d_setItem {H' : Hp} {Q : Unit → Shared → Prop} (hu : A.units + 1 < cLine) (I : Inv X pins σ H s) (g : DPut H a y v H') (ry : RelV y u) (rv : RelV v r) (h : ∀ s', Inv X pins σ H' s' → Q () s') :
    wpAny (model X.prog X.w) A (setItem (.ref a) u r) Q E s := by
  rcases g with ⟨kvs, k, e, ey, l, eH⟩ | ⟨kvs, k, b, e, ey, eb, l, eH⟩
  · subst ey eH
    obtain ⟨z, hd, vs, rel, dd⟩ := dk_of I.hok e
    have hz : vs.length ≤ sizeLine := by rw [← rel.length]; exact z
    have hl : (putK kvs k v).length ≤ sizeLine := by have := length_putK kvs k v; omega
    refine wpAny_setItem_pairs (hsz := hz) (kV_is ry) dd fun h' dd' hs => h _ ?_
    have he : ∃ q, h'.get? a = some q := let ⟨q, _, _, hq, _⟩ := dd'; ⟨q, hq⟩
    exact d_write I (by rw [e]; exact True.intro) hs he (dk_new hl hd (rel.put k rv) dd')
  · subst ey eH
    cases (show u = Value.ref b from ry)
    obtain ⟨z, hd, xs, rel, dd⟩ := dt_of I.hok e
    have hz : xs.length ≤ sizeLine := by rw [← Paired.length rel]; exact z
    have hl : (putK kvs k v).length ≤ sizeLine := by have := length_putK kvs k v; omega
    refine wpAny_setItem_heap (hsz := hz) (tupleKind_room_in1 hu) (key_of I.hok eb) dd fun h' dd' hs => h _ ?_
    obtain ⟨q, es, ep, hq, h2, h3, h4, _, h5⟩ := dd'
    refine d_write I (by rw [e]; exact True.intro) hs ⟨q, hq⟩ ⟨hl, hd, _, (rel.put k eb rv).keeps fun c ys ec => ?_, q, es, ep, hq, h2, h3, h4, h5⟩
    rw [upd_ne (ne_of ec e (fun z => nomatch z))]
    exact ec
end
section
variable {X : Cx} {pins : List (Addr × Obj)} {σ : St} {H : Hp} {s : Shared} {a : Addr} {kvs : List (Key × V)} {k : Key} {u : Value} {A : Around} {E : Value → Shared → Prop}
theorem d_pop {v : V} {more : List Value} {Q : Value → Shared → Prop} (I : Inv X pins σ H s) (e : H a = some (.dK kvs)) (ry : RelV (kV k) u) (l : valV kvs k = some v) (hm : more = [] ∨ ∃ x, more = [x])
    (h : ∀ w' s', Inv X pins σ (upd H a (.dK (dropK kvs k))) s' → RelV v w' → Q w' s') : wpAny (model X.prog X.w) A (call (.builtin "dict.pop") (.ref a :: u :: more)) Q E s := by
  obtain ⟨z, hd, vs, rel, dd⟩ := dk_of I.hok e
  obtain ⟨w', hw, rw'⟩ := RelO.some_of (v := v) (o := valueAt vs k) (by rw [← l]; exact rel.val k)
  have hp : (keyPart u).isSome = true := by
    cases k with
    | inl i => obtain ⟨t, q⟩ := (show ∃ t, u = Value.int i t from ry); subst q; rfl
    | inr x => obtain ⟨t, q⟩ := (show ∃ t, u = Value.str x t from ry); subst q; rfl
  have ha : argsOk "dict.pop" ⟨.ref a :: u :: more, []⟩ := by
    rcases hm with q | ⟨x, q⟩
    · subst q; exact PySem.F.args_dict_pop_2 _ _
    · subst q; exact PySem.F.args_dict_pop_3 _ _ _
  refine call_meetsIn PySem.F.slot_dict_pop dd.typeIs PySem.F.entry_dict_pop ha (meets_dict_pop_there (mixKind X.prog X.w) a (kV_is ry) more hm hp)
    ⟨vs, w', dd, by rw [← rel.length]; exact z, hw, fun h' dd' hs => h w' _ ?_ rw'⟩
  have he : ∃ q, h'.get? a = some q := let ⟨q, _, _, hq, _⟩ := dd'; ⟨q, hq⟩
  exact d_write I (by rw [e]; exact True.intro) hs he (dk_new (Nat.le_trans (dropK_le kvs k) z) hd (rel.drop k) dd')
end
def NoSl (i : Expr) : Prop := ∀ ov iv, subscripted i false ov iv = operate [ov, iv] (getItem ov iv)
theorem subD_of {prog : Program} {w : World} {A : Around} {E : Value → Shared → Prop} {s : Shared} {env : Env} {value slice : Expr} {pos : Pos} {T id : String} {Q : Value → Shared → Prop}
    (hl : typeLookup (.type T) "__getitem__" = pure (some (.builtin id))) (hs : NoSl slice)
    (h : wpAny (model prog w) A (eval value env) (fun o s₁ => wpAny (model prog w) A (eval slice env) (fun i s₂ => s₂.TypeIs o T ∧ wpAny (model prog w) A (getItem o i) Q E s₂) E s₁) E s) :
    wpAny (model prog w) A (eval (.Subscript value slice pos) env) Q E s := by
  refine Subscript_ (wpAny_mono h (fun o s₁ h₁ => wpAny_mono h₁ (fun i s₂ h₂ => ?_) fun _ _ x => x) fun _ _ x => x)
  obtain ⟨hT, h₂⟩ := h₂
  unfold subscriptTail
  refine wpAny_bind ?_
  rw [getitemInPython_of_ne hT.not_modules]
  refine wpAny_bind (wpAny_specialOf hT hl ?_)
  have fin : wpAny (model prog w) A (subscripted slice false o i) (fun r s₃ => wpAny (model prog w) A (letTemporaryGo value o r >>= fun _ => pure r) Q E s₃) E s₂ := by
    rw [hs o i]
    exact wpAny_operating (wpAny_mono h₂ (fun r s₃ h₃ => wpAny_bind (wpAny_letTemporaryGo (wpAny_pure h₃))) fun _ _ x => x)
  first
    | exact wpAny_pure (wpAny_bind fin)
    | exact wpAny_bind (wpAny_pure (wpAny_bind fin))
    | exact wpAny_bind fin
theorem dict_typeIs {X : Cx} {pins : List (Addr × Obj)} {σ : St} {H : Hp} {s : Shared} {a : Addr} {y : V} {o : Option V} (I : Inv X pins σ H s) (g : DGet H a y o) : s.TypeIs (.ref a) "dict" := by
  rcases g with ⟨kvs, k, e, _, _⟩ | ⟨kvs, k, b, e, _, _, _⟩
  · obtain ⟨_, _, vs, _, dd⟩ := dk_rd I.hok e
    exact dd.typeIs
  · obtain ⟨_, _, xs, _, dd⟩ := dt_rd I.hok e
    exact dd.typeIs
def tDGet (td ty : TE) : TE := fun σ H Q => td σ H fun x H1 => ty σ H1 fun y H2 => ∃ a v, x = .ref a ∧ DGet H2 a y (some v) ∧ Q v H2
def tDIn (ty td : TE) : TE := fun σ H Q => ty σ H fun y H1 => td σ H1 fun x H2 => ∃ a o, x = .ref a ∧ DGet H2 a y o ∧ Q (.bl o.isSome) H2
def sDPut (td ty tv : TE) : TS := fun D σ H => tv σ H fun v H1 => td σ H1 fun x H2 => ty σ H2 fun y H3 => ∃ a H4, x = .ref a ∧ DPut H3 a y v H4 ∧ D.nx σ H4
def sDAug (td ty tv : TE) (rd : V → V → Hp → VK → Prop) : TS := fun D σ H => td σ H fun x H1 => ty σ H1 fun y H2 => ∃ a v, x = .ref a ∧ DGet H2 a y (some v) ∧
  tv σ H2 fun y2 H3 => rd v y2 H3 fun z H4 => ∃ H5, DPut H4 a y z H5 ∧ D.nx σ H5
section
variable {X : Cx} {o i e value : Expr} {pos pos' tpos : Pos} {td ty tv : TE}
theorem pe_dget (hu : X.A.units + 1 < cLine) (ho : PE X o td) (hi : PE X i ty) (hs : NoSl i) : PE X (.Subscript o i pos) (tDGet td ty) := by
  intro pins s σ H Q I h
  refine subD_of PySem.F.slot_dict_getitem.lookup hs (thn (ho pins s σ H _ I h) fun u s1 hh => ?_)
  obtain ⟨x, H1, I1, rx, q1⟩ := hh
  refine thn (hi pins s1 σ H1 _ I1 q1) fun iv s2 hh => ?_
  obtain ⟨y, H2, I2, ry, a, v, ex, g, q2⟩ := hh
  subst ex
  obtain rfl : u = Value.ref a := rx
  exact ⟨dict_typeIs I2 g, d_getItem hu I2 g ry fun w' s3 I3 rw' => ⟨v, H2, I3, rw', q2⟩⟩
theorem pc_din (hu : X.A.units + 1 < cLine) (hi : PE X i ty) (ho : PE X o td) : PC X .In i o (tDIn ty td) := by
  intro pins s σ H Q I h
  refine thn (hi pins s σ H _ I h) fun iv s1 hh => ?_
  obtain ⟨y, H1, I1, ry, q1⟩ := hh
  refine thn (ho pins s1 σ H1 _ I1 q1) fun u s2 hh => ?_
  obtain ⟨x, H2, I2, rx, a, ov, ex, g, q2⟩ := hh
  subst ex
  obtain rfl : u = Value.ref a := rx
  exact d_in hu I2 g ry fun s3 I3 => ⟨.bl ov.isSome, H2, I3, rfl, q2⟩
theorem ps_dput (hu : X.A.units + 1 < cLine) (ho : PE X o td) (hi : PE X i ty) (hv : PE X value tv) (hs : swapsWith value (some (.Subscript o i pos')) pos.line X.env = pure false) :
    PS X (.Assign [.Subscript o i pos'] value pos) (sDPut td ty tv) := by
  intro pins s σ H D I h
  refine wpAny_Assign_Subscript (thn (hv pins s σ H _ I h) fun r s1 ⟨v, H1, I1, rv, q1⟩ => thn (ho pins s1 σ H1 _ I1 q1) fun u s2 ⟨x, H2, I2, rx, q2⟩ => thn (hi pins s2 σ H2 _ I2 q2) fun iv s3 ⟨y, H3, I3, ry, a, H4, ex, g, q3⟩ => ?_) hs
  subst ex
  obtain rfl : u = Value.ref a := rx
  exact d_setItem hu I3 g ry rv fun s4 I4 => ⟨σ, H4, I4, q3⟩
theorem ps_daug {op : Operator} {rd : V → V → Hp → VK → Prop} (hu : X.A.units + 1 < cLine) (ho : PE X o td) (hi : PE X i ty) (hv : PE X value tv) (hop : InOp X op rd)
    (ha : ∀ ov iv new, augStore i ov iv new = (do holding [new, ov, iv] (setItem ov iv new); release [new, ov, iv] []; pure .next)) : PS X (.AugAssign (.Subscript o i tpos) op value pos) (sDAug td ty tv rd) := by
  intro pins s σ H D I h
  refine wpAny_AugAssign_SubscriptAny (thn (ho pins s σ H _ I h) fun u s1 ⟨x, H1, I1, rx, q1⟩ => thn (hi pins s1 σ H1 _ I1 q1) fun iv s2 ⟨y, H2, I2, ry, a, v, ex, g, q2⟩ => ?_) ha
  subst ex
  obtain rfl : u = Value.ref a := rx
  refine d_getItem hu I2 g ry fun w' s3 I3 rw' => thn (hv pins s3 σ H2 _ I3 q2) fun w2 s4 hh => ?_
  obtain ⟨y2, H3, I4, ry2, q3⟩ := hh
  refine thn (hop pins s4 σ H3 v y2 w' w2 _ I4 rw' ry2 q3) fun w3 s5 hh => ?_
  obtain ⟨z, H4, I5, rz, H5, g5, q4⟩ := hh
  exact d_setItem hu I5 g5 ry rz fun s6 I6 => ⟨σ, H5, I6, q4⟩
end
theorem dk_empty {P : Program} {w : World} {H : Hp} (h : Heap) (hb : sysModules < h.objs.size) : ObjOk P w H (h.push { cls := .type "dict", data := .dict #[] }) h.objs.size (.dK []) :=
  ⟨Nat.zero_le _, beq_eq_false_iff_ne.mpr (Ne.symm (Nat.ne_of_lt hb)), [], .nil, Heap.DictOf.new h⟩
def tDNewK : TE := fun _ H Q => ∀ p, H p = none → Q (.ref p) (upd H p (.dK []))
section
variable {X : Cx} {pos : Pos}
theorem pe_dnewK : PE X (.Dict [] [] pos) tDNewK := fun pins s σ H Q I h =>
  wpAny_Dict_empty ⟨.ref s.heap.objs.size, _, I.laid (a := s.heap.objs.size) (o := .dK []) (t' := s.toks) (fun _ _ q => Heap.get?_push_of_some _ q) (Nat.le_refl _) (dk_empty s.heap I.big), rfl, h _ (I.hok.fresh (Nat.le_refl _))⟩
end
def tPairs : List (TE × TE) → St → Hp → (List (V × V) → Hp → Prop) → Prop
  | [], _, H, Q => Q [] H
  | (tk, tv) :: r, σ, H, Q => tk σ H fun x H1 => tv σ H1 fun y H2 => tPairs r σ H2 fun ps H3 => Q ((x, y) :: ps) H3
abbrev VV : List (V × V) → List (Value × Value) → Prop := Paired fun p q => RelV p.1 q.1 ∧ RelV p.2 q.2
def PPs (X : Cx) (pos : Pos) (keys : List (Option Expr)) (values : List Expr) (trs : List (TE × TE)) : Prop :=
  ∀ (pins : List (Addr × Obj)) (s : Shared) (σ : St) (H : Hp) (Q : List (V × V) → Hp → Prop), Inv X pins σ H s → tPairs trs σ H Q →
    wpAny (model X.prog X.w) X.A (evalPairs (pairTrees keys values X.env pos)) (fun vs s' => ∃ ps H', Inv X pins σ H' s' ∧ VV ps vs ∧ Q ps H') X.xe s
theorem pps_nil {X : Cx} {pos : Pos} : PPs X pos [] [] [] := fun pins s σ H Q I h => pairTrees_nil_walk ⟨[], H, I, .nil, h⟩
theorem pps_cons {X : Cx} {pos : Pos} {k v : Expr} {ks : List (Option Expr)} {vs : List Expr} {tk tv : TE} {trs : List (TE × TE)} (hk : PE X k tk) (hv : PE X v tv) (hr : PPs X pos ks vs trs) :
    PPs X pos (some k :: ks) (v :: vs) ((tk, tv) :: trs) := fun pins s σ H Q I h =>
  pairTrees_cons_walk (thn (hk pins s σ H _ I h) fun u s1 ⟨x, H1, I1, rx, q1⟩ => thn (hv pins s1 σ H1 _ I1 q1) fun w2 s2 ⟨y, H2, I2, ry, q2⟩ =>
    thn (hr pins s2 σ H2 _ I2 q2) fun ws s3 ⟨ps, H3, I3, rel, q3⟩ => ⟨(x, y) :: ps, H3, I3, .cons ⟨rx, ry⟩ rel, q3⟩)
def mergeK (kvs more : List (Key × V)) : List (Key × V) := more.foldl (fun acc kv => putK acc kv.1 kv.2) kvs
theorem KV.merge : ∀ {more : List (Key × V)} {rs : List (Key × Value)} {kvs : List (Key × V)} {vs : List (Key × Value)}, KV more rs → KV kvs vs → KV (mergeK kvs more) (merged vs rs) := by
  intro more rs kvs vs r
  unfold KV at r
  induction r generalizing kvs vs with
  | nil => intro q; exact q
  | @cons p q ps qs h t ih =>
    intro r0
    have e : KV (putK kvs p.1 p.2) (stored vs q.1 q.2) := by
      have := r0.put p.1 h.2
      rw [← h.1]; exact this
    exact ih e
theorem length_mergeK : ∀ (more kvs : List (Key × V)), (mergeK kvs more).length ≤ kvs.length + more.length
  | [], kvs => by show kvs.length ≤ kvs.length + 0; omega
  | p :: r, kvs => by
    have h1 := length_mergeK r (putK kvs p.1 p.2)
    have h2 := length_putK kvs p.1 p.2
    show (mergeK (putK kvs p.1 p.2) r).length ≤ _
    rw [List.length_cons]; omega
theorem carries_of {P : Program} {w : World} : ∀ {kvs : List (Key × V)} {ws : List (Value × Value)}, VV (kvs.map fun kv => (kV kv.1, kv.2)) ws → ∃ rs, Carries (mixKind P w) ws rs ∧ KV kvs rs
  | [], _, r => by rw [List.map_nil] at r; cases r; exact ⟨[], True.intro, .nil⟩
  | p :: kvs, _, r => by
    rw [List.map_cons] at r
    cases r with
    | @cons a b as bs h t =>
      obtain ⟨rs, c, q⟩ := carries_of (P := P) (w := w) t
      obtain ⟨b1, b2⟩ := b
      exact ⟨(p.1, b2) :: rs, ⟨kV_is h.1, rfl, c⟩, .cons ⟨rfl, h.2⟩ q⟩
def tDisp (trs : List (TE × TE)) : TE := fun σ H Q => ∀ p, H p = none → tPairs trs σ (upd H p (.dK [])) fun ps H2 => H2 p = some (.dK []) ∧ ∃ kvs : List (Key × V), ps = kvs.map (fun kv => (kV kv.1, kv.2)) ∧ kvs.length ≤ 15 ∧ Q (.ref p) (upd H2 p (.dK (mergeK [] kvs)))
theorem pe_disp {X : Cx} {pos : Pos} {keys : List (Option Expr)} {values : List Expr} {trs : List (TE × TE)} (h : PPs X pos keys values trs) (hall : keys.all (·.isSome) = true) (hl : keys.length = values.length) (h0 : keys ≠ [])
    (h15 : keys.length ≤ 15) : PE X (.Dict keys values pos) (tDisp trs) := by
  intro pins s σ H Q I q
  have hn := I.hok.fresh (Nat.le_refl s.heap.objs.size)
  have I1 := I.laid (a := s.heap.objs.size) (o := .dK []) (h' := s.heap.push { cls := .type "dict", data := .dict #[] }) (t' := s.toks) (fun _ _ q => Heap.get?_push_of_some _ q) (Nat.le_refl _) (dk_empty s.heap I.big)
  refine wpAny_Dict_walk (knd := mixKind X.prog X.w) hall hl h0 h15 (thn (h pins _ σ _ _ I1 (q _ hn)) fun ws s2 hh => ?_)
  obtain ⟨ps, H2, I2, rel, e, kvs, ep, lk, q2⟩ := hh
  subst ep
  obtain ⟨rs, c, rk⟩ := carries_of (P := X.prog) (w := X.w) rel
  obtain ⟨z, hd, vs0, r0, dd⟩ := dk_of I2.hok e
  cases r0
  refine ⟨rs, c, dd, fun h' dd' hs => ⟨.ref s.heap.objs.size, _, ?_, rfl, q2⟩⟩
  have hz : (mergeK [] kvs).length ≤ sizeLine := by
    have h1 := length_mergeK kvs []
    rw [List.length_nil] at h1
    rw [sizeLine_eq]; omega
  have he : ∃ q, h'.get? s.heap.objs.size = some q := let ⟨q, _, _, hq, _⟩ := dd'; ⟨q, hq⟩
  exact d_write I2 (by rw [e]; exact True.intro) hs he (dk_new hz hd (rk.merge .nil) dd')
structure M1 (X : Cx) (o : Expr) (m : Str) (apos : Pos) (e : Expr) (cpos : Pos) : Prop where
  base : attributeBase o m X.env (eval o X.env) = eval o X.env
  few : ((backTo cpos (starEach [e] X.env)).all (fun x => !x.1) && (backToKw cpos (keywordEach [] X.env)).all (fun x => x.1.isSome)
    && decide (([e] : List Expr).length + ([] : List Keyword).length + (if ([] : List Keyword).isEmpty then 0 else 1) < 30)) = true
  line : (apos.endLine == cpos.line) = true
  trees : backTo cpos (starEach [e] X.env) = [(false, eval e X.env)]
def IsD (H : Hp) (a : Addr) : Prop := (∃ kvs, Rd H a (.dK kvs)) ∨ ∃ kvs, Rd H a (.dT kvs)
theorem isD_at {X : Cx} {pins : List (Addr × Obj)} {σ : St} {H : Hp} {s : Shared} {a : Addr} (I : Inv X pins σ H s) (d : IsD H a) :
    s.TypeIs (.ref a) "dict" ∧ (∀ b, Value.ref a = .ref b → ∃ ob, s.heap.get? b = some ob ∧ ob.dict = none) ∧ (a == sysModules) = false := by
  rcases d with ⟨kvs, e⟩ | ⟨kvs, e⟩
  · obtain ⟨_, hd, vs, _, dd⟩ := dk_rd I.hok e
    refine ⟨dd.typeIs, fun b q => ?_, hd⟩
    cases q
    obtain ⟨ob, _, _, h1, h2, _⟩ := dd
    exact ⟨ob, h1, h2.2.1⟩
  · obtain ⟨_, hd, xs, _, dd⟩ := dt_rd I.hok e
    refine ⟨dd.typeIs, fun b q => ?_, hd⟩
    cases q
    obtain ⟨ob, _, _, h1, h2, _⟩ := dd
    exact ⟨ob, h1, h2.2.1⟩
section
variable {X : Cx} {pins : List (Addr × Obj)} {σ : St} {H : Hp} {s : Shared} {a : Addr} {y d : V} {u r : Value} {o : Option V} {A : Around} {E : Value → Shared → Prop}
end
def tDPop1 (td ty : TE) : TE := fun σ H Q => td σ H fun x H1 => ∃ a, x = .ref a ∧ IsD H1 a ∧ ty σ H1 fun y H2 => ∃ kvs k v, H2 a = some (.dK kvs) ∧ y = kV k ∧ valV kvs k = some v ∧ Q v (upd H2 a (.dK (dropK kvs k)))
section
variable {X : Cx} {o e f : Expr} {apos cpos : Pos} {td ty tx : TE}
theorem pe_dpop1 (ho : PE X o td) (he : PE X e ty) (m : M1 X o "pop" apos e cpos) : PE X (.Call (.Attribute o "pop" apos) [e] [] cpos) (tDPop1 td ty) := by
  intro pins s σ H Q I h
  refine wpAny_Call_method m.base m.few m.line PySem.F.plainAttrs_dict PySem.F.slot_dict_pop PySem.F.type_dict_pop (thn (ho pins s σ H _ I h) fun u s1 hh => ?_)
  obtain ⟨x, H1, I1, rx, a, ex, d, q1⟩ := hh
  subst ex
  obtain rfl : u = Value.ref a := rx
  obtain ⟨t1, t2, _⟩ := isD_at I1 d
  refine ⟨t1, t2, ?_⟩
  rw [m.trees]
  refine Calls.callWith_builtin rfl (Calls.evalArgs_plain (Calls.spliced_cons (thn (he pins s1 σ H1 _ I1 q1) fun iv s2 hh => ?_)))
  obtain ⟨y, H2, I2, ry, kvs, k, v, ea, ey, l, q2⟩ := hh
  refine Calls.spliced_nil ?_
  subst ey
  exact d_pop I2 ea ry l (.inl rfl) fun w' s3 I3 rw' => ⟨v, _, I3, rw', q2⟩
end
section
variable {X : Cx} {pins : List (Addr × Obj)} {σ : St} {H : Hp} {s : Shared} {a : Addr} {kvs : List (Key × V)} {A : Around} {E : Value → Shared → Prop}
end
section
variable {X : Cx} {pins : List (Addr × Obj)} {σ : St} {H : Hp} {s : Shared} {a : Addr} {y : V} {u : Value} {A : Around} {E : Value → Shared → Prop}
end
end L2
namespace HT
open PySem PyProof.Rows
def lexLt : List Int → List Int → Bool
  | [], [] => false
  | [], _ :: _ => true
  | _ :: _, [] => false
  | x :: xs, y :: ys => if x = y then lexLt xs ys else decide (x < y)
theorem lexLt_cons (x y : Int) (xs ys : List Int) : lexLt (x :: xs) (y :: ys) = if x = y then lexLt xs ys else decide (x < y) := rfl
theorem rcLt_int (A : Around) (s : Shared) (a : Int) (t : Tok) (c : Int) (u : Tok) (prog : Program) (w : World) (E : Value → Shared → Prop) (Q : Value → Shared → Prop) (h : Q (.bool (decide (a < c))) s) :
    wpAny (model prog w) A (richCompare .Lt (.int a t) (.int c u)) Q E s :=
  (PyProof.Rows.lt_int h : wpAny (model prog w) A (compareOp .Lt (.int a t) (.int c u)) Q E s)
section
open PySem.SeqAt
open PySem.AutoSeq1 (wpAny_loadPart')
open PySem.MeetsSeq PySem.MeetsSeq2 PySem.MeetsSeq3
end
section
variable {prog : Program} {w : World} {A : Around} {E : Value → Shared → Prop} {s : Shared}
def sIx (n d : Nat) : Option Int → Nat
  | none => d
  | some v => if v < 0 then (v + (n : Int)).toNat else min v.toNat n
theorem sIx_none (n d : Nat) : sIx n d none = d := rfl
theorem sIx_nat (n d k : Nat) : sIx n d (some (k : Int)) = min k n := by
  show (if (k : Int) < 0 then ((k : Int) + (n : Int)).toNat else min (k : Int).toNat n) = min k n
  rw [if_neg (by omega), Int.toNat_natCast]
theorem sIx_le (n d : Nat) (hd : d ≤ n) (o : Option Int) : sIx n d o ≤ n := by
  cases o with
  | none => exact hd
  | some v =>
    show (if v < 0 then (v + (n : Int)).toNat else min v.toNat n) ≤ n
    by_cases hv : v < 0
    · rw [if_pos hv]; omega
    · rw [if_neg hv]; exact Nat.min_le_right _ _
theorem clip_eq (v : Int) (n d : Nat) : (if v < 0 then max (v + (n : Int)) 0 else min v (n : Int)) = ((sIx n d (some v) : Nat) : Int) := by
  show (if v < 0 then max (v + (n : Int)) 0 else min v (n : Int)) = (((if v < 0 then (v + (n : Int)).toNat else min v.toNat n) : Nat) : Int)
  by_cases hv : v < 0
  · simp only [if_pos hv]; omega
  · simp only [if_neg hv]; omega
theorem adjust_gen (lo hi : Option Int) (n : Nat) : Builtin.Slice.sliceAdjust lo hi 1 (n : Int) = (((sIx n 0 lo : Nat) : Int), ((sIx n n hi : Nat) : Int)) := by
  have h1 : ¬ ((1 : Int) < 0) := by omega
  unfold Builtin.Slice.sliceAdjust
  simp only [h1, if_false]
  refine Prod.ext ?_ ?_
  · cases lo with
    | none => rfl
    | some v => exact clip_eq v n 0
  · cases hi with
    | none => rfl
    | some v => exact clip_eq v n n
theorem places_gen (i j : Nat) : Builtin.Slice.slicePlaces (i : Int) (j : Int) 1 = j - i := by
  unfold Builtin.Slice.slicePlaces
  have h1 : (1 : Int) > 0 := by omega
  simp only [h1, if_true, Int.ediv_one]
  split <;> omega
theorem slicePart_ {v : Value} {o : Option Int} {Q : Option Int → Shared → Prop} (p : IsPart v o) (h : Q o s) : wpAny (model prog w) A (Builtin.Slice.slicePartIndex v) Q E s := by
  cases p with
  | none => exact slicePart_none h
  | int i t => exact slicePart_int h
theorem sliceApplied_gen {sl : Addr} {vl vu : Value} {lo hi : Option Int} {n : Nat} {Q : Int × Int × Nat → Shared → Prop} (hs : s.heap.IsSliceOf sl vl vu .none) (pl : IsPart vl lo) (pu : IsPart vu hi)
    (h : Q (((sIx n 0 lo : Nat) : Int), 1, sIx n n hi - sIx n 0 lo) s) : wpAny (model prog w) A (Builtin.Slice.sliceApplied (.ref sl) (pure (n : Int))) Q E s := by
  obtain ⟨os, hos, hcs, hds⟩ := id hs
  unfold Builtin.Slice.sliceApplied Builtin.Slice.sliceFields
  refine wpAny_bind (wpAny_bind (wpAny_field hos hds (x := vl) rfl (wpAny_bind (wpAny_field hos hds (x := vu) rfl (wpAny_bind (wpAny_field hos hds (x := .none) rfl (wpAny_pure ?_)))))))
  refine wpAny_bind (slicePart_none ?_)
  show wpAny _ _ (if ((1 : Int) == 0) = true then _ else _) _ _ s
  rw [if_neg (by decide)]
  refine wpAny_bind (slicePart_ pl (wpAny_bind (slicePart_ pu (wpAny_bind (wpAny_pure ?_)))))
  show wpAny _ _ (match Builtin.Slice.sliceAdjust lo hi 1 (n : Int) with | (lo, hi) => pure (lo, (1 : Int), Builtin.Slice.slicePlaces lo hi 1)) _ _ s
  rw [adjust_gen lo hi n]
  show wpAny _ _ (pure (((sIx n 0 lo : Nat) : Int), (1 : Int), Builtin.Slice.slicePlaces ((sIx n 0 lo : Nat) : Int) ((sIx n n hi : Nat) : Int) 1)) _ _ s
  rw [places_gen]
  exact wpAny_pure h
theorem pick_gen (xs : Array Value) (i k : Nat) : ((List.range k).filterMap fun (m : Nat) => xs[((i : Int) + (m : Int) * 1).toNat]?).toArray = ((xs.toList.drop i).take k).toArray := by
  have e : (fun (m : Nat) => xs[((i : Int) + (m : Int) * 1).toNat]?) = fun m => xs[i + m]? := by
    funext m
    have : ((i : Int) + (m : Int) * 1).toNat = i + m := by omega
    rw [this]
  rw [e]
  have := pick_run xs i k
  rw [List.filterMap_map] at this
  have e2 : ((fun x => xs[x]?) ∘ fun x => i + x) = fun m => xs[i + m]? := rfl
  rw [e2] at this
  rw [this]
theorem getItem_tuple_cut {t sl : Addr} {items : Array Value} {vl vu : Value} {lo hi : Option Int} {Q : Value → Shared → Prop} (ht : IsTup s.heap t items) (hs : s.heap.IsSliceOf sl vl vu .none) (pl : IsPart vl lo) (pu : IsPart vu hi)
    (hw : ¬ (sIx items.size 0 lo = 0 ∧ sIx items.size items.size hi = items.size))
    (h : Q (.ref s.heap.objs.size) { s with heap := s.heap.push { cls := .type "tuple", data := .seq ((items.toList.drop (sIx items.size 0 lo)).take (sIx items.size items.size hi - sIx items.size 0 lo)).toArray } })
    (hsz : items.size ≤ sizeLine) : wpAny (model prog w) A (getItem (.ref t) (.ref sl)) Q E s := by
  have htake : sizeOk (.seq ((items.toList.drop (sIx items.size 0 lo)).take (sIx items.size items.size hi - sIx items.size 0 lo)).toArray) := by
    show ((items.toList.drop (sIx items.size 0 lo)).take (sIx items.size items.size hi - sIx items.size 0 lo)).toArray.size ≤ sizeLine
    rw [List.size_toArray, List.length_take, List.length_drop, Array.length_toList]
    omega
  have hj : sIx items.size items.size hi ≤ items.size := sIx_le _ _ (Nat.le_refl _) hi
  obtain ⟨os, hos, hcs, hds⟩ := id hs
  have hTs : s.TypeIs (.ref sl) "slice" := ⟨os, hos, hcs⟩
  unfold getItem
  try with_reducible refine wpAny_holding ?_
  first | refine wpAny_bind (wpAny_pure ?_) | skip
  refine wpAny_bind (wpAny_sequenceKey ht.typeIs (by decide) ?_)
  refine wpAny_bind (wpAny_callSpecial?_slot (name := Str.ofString "__getitem__") ht.typeIs PyProof.Rows.slot_tuple_getitem
    (wpAny_call_entry PyProof.Rows.slot_tuple_getitem ht.typeIs entry_tuple_getitem ?_ (args_tuple_getitem _ _)))
  show wpAny _ _ (Builtin.Tuple.tupleItemsOf (.ref t) >>= _) _ _ s
  refine wpAny_bind (tupleItemsOf_ ht ?_)
  refine wpAny_bind (wpAny_typeOf hTs ?_)
  rw [if_pos (by decide)]
  refine wpAny_bind (sliceApplied_gen hs pl pu ?_)
  have hno : ¬ ((((sIx items.size 0 lo : Nat) : Int) == 0 && (1 : Int) == 1 && (sIx items.size items.size hi - sIx items.size 0 lo) == items.size) = true) := by
    intro q
    rw [Bool.and_eq_true, Bool.and_eq_true] at q
    have q1 : ((sIx items.size 0 lo : Nat) : Int) = 0 := eq_of_beq q.1.1
    have q2 : sIx items.size items.size hi - sIx items.size 0 lo = items.size := eq_of_beq q.2
    exact hw ⟨by omega, by omega⟩
  show wpAny _ _ (if (((sIx items.size 0 lo : Nat) : Int) == 0 && (1 : Int) == 1 && (sIx items.size items.size hi - sIx items.size 0 lo) == items.size) = true then _ else _) _ _ s
  rw [if_neg hno, pick_gen]
  first
    | exact wpAny_bind (m := Builtin.Tuple.tupleExact _) (wpAny_newObj_type (wpAny_pure ⟨_, rfl, wpAny_pure h⟩) htake)
    | exact wpAny_bind (m := Builtin.Tuple.tupleExact _) (wpAny_newObj_type (wpAny_bind (wpAny_pure (wpAny_pure ⟨_, rfl, wpAny_pure h⟩))) htake)
    | exact wpAny_bind (wpAny_bind (m := Builtin.Tuple.tupleExact _) (wpAny_newObj_type (wpAny_pure (wpAny_pure ⟨_, rfl, wpAny_pure h⟩)) htake))
    | exact wpAny_bind (wpAny_bind (m := Builtin.Tuple.tupleExact _) (wpAny_newObj_type (wpAny_pure ⟨_, rfl, wpAny_pure h⟩) htake))
end
end HT
namespace L2
open PySem PySem.Spec PyProof.Rows
abbrev TO := St → Hp → (Option Int → Hp → Prop) → Prop
def PO (X : Cx) (e : Option Expr) (t : TO) : Prop :=
  ∀ (pins : List (Addr × Obj)) (s : Shared) (σ : St) (H : Hp) (Q : Option Int → Hp → Prop), Inv X pins σ H s → t σ H Q →
    wpAny (model X.prog X.w) X.A (evalPart e X.env) (fun u s' => ∃ o H', Inv X pins σ H' s' ∧ IsPart u o ∧ Q o H') X.xe s
def tNoPart : TO := fun _ H Q => Q none H
def tPart (t : TE) : TO := fun σ H Q => t σ H fun x H1 => ∃ i, x = .int i ∧ Q (some i) H1
theorem intsAre_of {ns : List Int} : ∀ {us : List Value}, Vals (ns.map V.int) us → IntsAre us ns := by
  induction ns with
  | nil => intro us r; rw [List.map_nil] at r; cases r; exact .nil
  | cons n ns ih =>
    intro us r
    rw [List.map_cons] at r
    cases r with
    | cons r1 r2 =>
      obtain ⟨t, e⟩ := r1
      subst e
      exact .cons n t (ih r2)
section
variable {X : Cx} {e : Expr} {te : TE} {lo hi : Option Expr} {tl th : TO} {pos p2 : Pos}
theorem po_none : PO X none tNoPart := by
  intro pins s σ H Q I h
  rw [evalPart_none]
  exact wpAny_pure ⟨none, H, I, .none, h⟩
theorem po_some (h : PE X e te) : PO X (some e) (tPart te) := by
  intro pins s σ H Q I hw
  rw [evalPart_some]
  refine thn (h pins s σ H _ I hw) fun u s1 hh => ?_
  obtain ⟨x, H1, I1, r1, q1⟩ := hh
  obtain ⟨i, rfl, q⟩ := q1
  obtain ⟨t, rfl⟩ := r1
  exact ⟨some i, H1, I1, .int i t, q⟩
def SlR (X : Cx) (r : V → Option Int → Option Int → Hp → VK → Prop) : Prop :=
  ∀ (pins : List (Addr × Obj)) (s : Shared) (σ : St) (H : Hp) (x : V) (v vl vu : Value) (lo hi : Option Int) (sl : Addr) (Q : VK), Inv X pins σ H s → RelV x v → s.heap.IsSliceOf sl vl vu .none → IsPart vl lo → IsPart vu hi → r x lo hi H Q →
    ∃ T id, typeLookup (.type T) "__getitem__" = pure (some (.builtin id)) ∧ s.TypeIs v T ∧ wpAny (model X.prog X.w) X.A (getItem v (.ref sl)) (EP X pins σ Q) X.xe s
def tSl (r : V → Option Int → Option Int → Hp → VK → Prop) (te : TE) (tl th : TO) : TE := fun σ H Q => te σ H fun x H1 => tl σ H1 fun l H2 => th σ H2 fun u H3 => r x l u H3 Q
theorem pe_slice {r : V → Option Int → Option Int → Hp → VK → Prop} (hr : SlR X r) (he : PE X e te) (hl : PO X lo tl) (hu : PO X hi th) : PE X (.Subscript e (.Slice lo hi none p2) pos) (tSl r te tl th) := by
  intro pins s σ H Q I h
  refine Subscript_ (thn (he pins s σ H _ I h) fun v s1 hh => ?_)
  obtain ⟨x, H1, I1, r1, q1⟩ := hh
  refine wpAny_Slice (thn (hl pins s1 σ H1 _ I1 q1) fun vl s2 hh => ?_)
  obtain ⟨l, H2, I2, pl, q2⟩ := hh
  refine thn (hu pins s2 σ H2 _ I2 q2) fun vu s3 hh => ?_
  obtain ⟨u, H3, I3, pu, q3⟩ := hh
  rw [evalPart_none]
  refine wpAny_pure ?_
  have I4 : Inv X pins σ H3 { s3 with heap := s3.heap.push { cls := .type "slice", data := .fields #[vl, vu, .none] } } := I3.kept (t' := s3.toks) fun b ob q => Heap.get?_push_of_some _ q
  obtain ⟨T, id, hT, ht, hg⟩ := hr pins { s3 with heap := s3.heap.push { cls := .type "slice", data := .fields #[vl, vu, .none] } } σ H3 x v vl vu l u s3.heap.objs.size Q I4 r1 (Heap.IsSliceOf.new ..) pl pu q3
  show wpAny (model X.prog X.w) X.A (subscriptTail e (.Slice lo hi none p2) v (.ref s3.heap.objs.size)) (EP X pins σ Q) X.xe { s3 with heap := s3.heap.push { cls := .type "slice", data := .fields #[vl, vu, .none] } }
  exact tail_any (ops := [.ref s3.heap.objs.size, v]) ht hT hg (by with_unfolding_all rfl)
def cutV (xs : List V) (lo hi : Option Int) : List V := (xs.drop (HT.sIx xs.length 0 lo)).take (HT.sIx xs.length xs.length hi - HT.sIx xs.length 0 lo)
theorem cutV_length (xs : List V) (lo hi : Option Int) : (cutV xs lo hi).length ≤ xs.length := by
  unfold cutV
  rw [List.length_take, List.length_drop]
  omega
def rSlT (K : PySem.W.Frag) : V → Option Int → Option Int → Hp → VK → Prop := fun x lo hi H Q => ∃ a xs, x = .ref a ∧ SqT K H a xs ∧
  ¬ (HT.sIx xs.length 0 lo = 0 ∧ HT.sIx xs.length xs.length hi = xs.length) ∧ ∀ p, H p = none → Q (.ref p) (upd H p (.tup (cutV xs lo hi)))
theorem sl_tup : SlR X (rSlT X.K) := by
  intro pins s σ H x v vl vu lo hi sl Q I rx hs pl pu h
  obtain ⟨a, xs, rfl, hx, hw, q⟩ := h
  cases rx
  obtain ⟨its, r, ht, hz⟩ := I.tuple hx
  have hlen : its.toArray.size = xs.length := by rw [List.size_toArray]; exact r.length.symm
  refine ⟨"tuple", _, PyProof.Rows.slot_tuple_getitem.lookup, ht.typeIs, ?_⟩
  refine HT.getItem_tuple_cut ht hs pl pu (by rw [hlen]; exact hw) ?_ (by rw [hlen]; exact hz)
  rw [hlen]
  refine ⟨.ref s.heap.objs.size, _, I.laid (t' := s.toks) (o := .tup (cutV xs lo hi)) (fun b ob q => Heap.get?_push_of_some _ q) (Nat.le_refl _) ?_, rfl, q _ (I.hok.fresh (Nat.le_refl _))⟩
  exact ⟨Nat.le_trans (cutV_length xs lo hi) hz, _, (r.drop (HT.sIx xs.length 0 lo)).take (HT.sIx xs.length xs.length hi - HT.sIx xs.length 0 lo), IsTup.new _ _⟩
end
end L2
namespace L2
open PySem PySem.Spec PyProof.Rows
def ixN (n : Nat) (i : Int) : Option Nat := if 0 ≤ i then (if i < n then some i.toNat else none) else if -(n : Int) ≤ i then some (i + n).toNat else none
def atI {α : Type} (xs : List α) (i : Int) : Option α := (ixN xs.length i).bind fun j => xs[j]?
theorem ixN_seq {n : Nat} {i : Int} {j : Nat} (h : ixN n i = some j) : seqIndex? i n = some j ∧ j < n ∧ -(n : Int) ≤ i ∧ i < n := by
  unfold ixN at h
  by_cases h0 : 0 ≤ i
  · rw [if_pos h0] at h
    by_cases h1 : i < n
    · rw [if_pos h1] at h
      have e : i.toNat = j := Option.some.inj h
      exact ⟨by rw [seqIndex_of h0 h1, e], by omega, by omega, h1⟩
    · rw [if_neg h1] at h; cases h
  · rw [if_neg h0] at h
    by_cases h1 : -(n : Int) ≤ i
    · rw [if_pos h1] at h
      have e : (i + n).toNat = j := Option.some.inj h
      exact ⟨by rw [seqIndex_neg (by omega) h1, e], by omega, h1, by omega⟩
    · rw [if_neg h1] at h; cases h
theorem atI_get {α : Type} {xs : List α} {i : Int} {v : α} (h : atI xs i = some v) : ∃ j, seqIndex? i xs.length = some j ∧ xs[j]? = some v ∧ j < xs.length ∧ -(xs.length : Int) ≤ i ∧ i < xs.length := by
  unfold atI at h
  cases e : ixN xs.length i with
  | none => rw [e] at h; cases h
  | some j =>
    rw [e] at h
    obtain ⟨h1, h2, h3, h4⟩ := ixN_seq e
    exact ⟨j, h1, h, h2, h3, h4⟩
theorem atI_nat {α : Type} {xs : List α} {j : Nat} {v : α} (h : xs[j]? = some v) : atI xs (j : Int) = some v := by
  have hj : j < xs.length := (List.getElem?_eq_some_iff.mp h).1
  have e : ixN xs.length (j : Int) = some j := by
    unfold ixN
    rw [if_pos (by omega), if_pos (by omega)]; simp
  unfold atI; rw [e]; exact h
def PlainIx (b : Expr) : Prop := ∀ o i, subscripted b false o i = operate [o, i] (getItem o i)
def IxR (X : Cx) (r : R2) : Prop :=
  ∀ (value slice : Expr) (pins : List (Addr × Obj)) (s : Shared) (σ : St) (H : Hp) (x y : V) (v u : Value) (Q : VK), Inv X pins σ H s → RelV x v → RelV y u → r x y H Q →
    subscripted slice false v u = operate [v, u] (getItem v u) → wpAny (model X.prog X.w) X.A (subscriptTail value slice v u) (EP X pins σ Q) X.xe s
def MtR (X : Cx) (id : String) (r : V → List V → Hp → VK → Prop) : Prop :=
  ∀ (pins : List (Addr × Obj)) (s : Shared) (σ : St) (H : Hp) (x : V) (xs : List V) (v : Value) (us : List Value) (Q : VK), Inv X pins σ H s → RelV x v → Vals xs us → r x xs H Q →
    wpAny (model X.prog X.w) X.A (call (.builtin id) (v :: us)) (EP X pins σ Q) X.xe s
section
variable {X : Cx} {a b : Expr} {ta tb : TE} {pos : Pos}
theorem pe_ix {r : R2} (hr : IxR X r) (ha : PE X a ta) (hb : PE X b tb) (hs : PlainIx b) : PE X (.Subscript a b pos) (tOp r ta tb) := by
  intro pins s σ H Q I h
  exact Subscript_ (binT ha hb I h fun v u s2 x y H2 I2 rx ry q => hr a b pins s2 σ H2 x y v u Q I2 rx ry q (hs _ _))
def rIxL (K : PySem.W.Frag) : R2 := fun x y H Q => ∃ p xs i v, x = .ref p ∧ y = .int i ∧ SqL K H p xs ∧ atI xs i = some v ∧ Q v H
def rIxT (K : PySem.W.Frag) : R2 := fun x y H Q => ∃ p xs i v, x = .ref p ∧ y = .int i ∧ SqT K H p xs ∧ atI xs i = some v ∧ Q v H
theorem ix_list : IxR X (rIxL X.K) := by
  intro value slice pins s σ H x y v u Q I rx ry h hs
  obtain ⟨p, xs, i, z, rfl, rfl, hq, he, q⟩ := h
  cases rx
  obtain ⟨t, rfl⟩ := ry
  obtain ⟨its, r, pl, hz⟩ := I.list hq
  obtain ⟨j, h1, h2, h3, h4, h5⟩ := atI_get he
  obtain ⟨w, ew, rw'⟩ := r.get h2
  have hl := r.length
  have hn := line63
  have fin : EP X pins σ Q w s := ⟨z, H, I, rw', q⟩
  by_cases h0 : 0 ≤ i
  · have hj : i.toNat = j := by
      rw [seqIndex_of h0 h5] at h1
      exact Option.some.inj h1
    exact item_listR pl.isList h0 (by omega) (by rw [hj]; simpa using ew) fin hs
  · have hj : (i + (its.toArray.size : Int)).toNat = j := by
      rw [seqIndex_neg (by omega) h4] at h1
      rw [List.size_toArray, ← hl]
      exact Option.some.inj h1
    exact subscriptTail_builtinR (x := w) pl.isList.typeIs slot_list_getitem.lookup
      (wpAny_getItem_list_neg (Q := fun r s' => r = w ∧ EP X pins σ Q r s') pl.isList (by omega) (by rw [List.size_toArray] <;> omega) (by omega) (by rw [hj]; simpa using ew) ⟨rfl, fin⟩) hs
theorem ix_tup : IxR X (rIxT X.K) := by
  intro value slice pins s σ H x y v u Q I rx ry h hs
  obtain ⟨p, xs, i, z, rfl, rfl, hq, he, q⟩ := h
  cases rx
  obtain ⟨t, rfl⟩ := ry
  obtain ⟨its, r, pl, hz⟩ := I.tuple hq
  obtain ⟨j, h1, h2, h3, h4, h5⟩ := atI_get he
  obtain ⟨w, ew, rw'⟩ := r.get h2
  have hl := r.length
  have hn := line63
  have fin : EP X pins σ Q w s := ⟨z, H, I, rw', q⟩
  exact subscriptTail_builtinR (x := w) pl.typeIs slot_tuple_getitem.lookup
    (getItem_tuple (j := j) (Q := fun r s' => r = w ∧ EP X pins σ Q r s') pl (by omega) (by omega) (by rw [List.size_toArray, ← hl]; exact h1) (by simpa using ew) ⟨rfl, fin⟩) hs
theorem mapSeq_set (its : List Value) (n j : Nat) (u : Value) : Obj.mapSeq (·.setIfInBounds j u) { cls := .type "list", data := .seq its.toArray n } = { cls := .type "list", data := .seq (its.set j u).toArray n } := by
  simp [Obj.mapSeq]
theorem Inv.lst {pins : List (Addr × Obj)} {σ : St} {H : Hp} {s : Shared} {p : Addr} {xs : List V} (I : Inv X pins σ H s) (h : H p = some (.lst xs)) :
    ∃ (its : List Value) (n : Nat), Vals xs its ∧ s.heap.get? p = some { cls := .type "list", data := .seq its.toArray n } ∧ xs.length ≤ sizeLine := by
  obtain ⟨z, its, n, r, e⟩ := I.hok p _ h
  exact ⟨its, n, r, e, z⟩
theorem Inv.lstUpd {pins : List (Addr × Obj)} {σ : St} {H : Hp} {s : Shared} {p : Addr} {xs ys : List V} {its its' : List Value} {n n' : Nat} {f : Obj → Obj} (I : Inv X pins σ H s) (h : H p = some (.lst xs))
    (ho : s.heap.get? p = some { cls := .type "list", data := .seq its.toArray n }) (hf : f { cls := .type "list", data := .seq its.toArray n } = { cls := .type "list", data := .seq its'.toArray n' }) (r : Vals ys its') (hz : ys.length ≤ sizeLine) (t : Nat) :
    Inv X pins σ (upd H p (.lst ys)) { s with heap := s.heap.update p f, toks := t } := by
  have e : (s.heap.update p f).get? p = some { cls := .type "list", data := .seq its'.toArray n' } := by
    rw [Heap.get?_update_self f ho (by rw [hf] <;> rfl), hf]
  refine I.write (x := p) (e := p) (by rw [h]; trivial) (.inl rfl) (fun b u hb q => (Heap.get?_update_other _ _ (Ne.symm hb)).trans q) ⟨_, e⟩ ?_
  exact ⟨hz, its', n', r, e⟩
def rSetL : V → V → V → Hp → (Hp → Prop) → Prop := fun o i v H Q => ∃ p xs k j, o = .ref p ∧ i = .int k ∧ H p = some (.lst xs) ∧ ixN xs.length k = some j ∧ Q (upd H p (.lst (xs.set j v)))
theorem set_list : PSet X rSetL := by
  intro pins s σ H o i v ov iv u Q I ro ri rv h
  obtain ⟨p, xs, k, j, rfl, rfl, hp, hj, q⟩ := h
  cases ro
  obtain ⟨t, rfl⟩ := ri
  obtain ⟨its, n, r, ho, hz⟩ := I.lst hp
  obtain ⟨h1, h2, h3, h4⟩ := ixN_seq hj
  have hl := r.length
  have hn := line63
  have I' : Inv X pins σ (upd H p (.lst (xs.set j v))) { s with heap := s.heap.update p (Obj.mapSeq (·.setIfInBounds j u)) } :=
    I.lstUpd hp ho (mapSeq_set its n j u) (r.set rv j) (by rw [List.length_set]; exact hz) s.toks
  by_cases h0 : 0 ≤ k
  · have hk : k.toNat = j := by
      rw [seqIndex_of h0 h4] at h1
      exact Option.some.inj h1
    exact PySem.W.ki_setAt ho h0 (by omega) (by rw [List.size_toArray, ← hl]; exact h4) (by rw [hk]; exact ⟨_, I', q⟩)
  · have hk : (k + (its.toArray.size : Int)).toNat = j := by
      rw [seqIndex_neg (by omega) h3] at h1
      rw [List.size_toArray, ← hl]
      exact Option.some.inj h1
    exact PySem.W.ki_setBack ho (by omega) (by rw [List.size_toArray, ← hl]; exact h3) (by omega) (by rw [hk]; exact ⟨_, I', q⟩)
theorem slice_bounds (lo hi : Option Int) (n : Nat) : (sliceBounds lo hi none n).1 = ((HT.sIx n 0 lo : Nat) : Int) ∧ (sliceBounds lo hi none n).2.1 = ((HT.sIx n n hi : Nat) : Int) ∧ (sliceBounds lo hi none n).2.2 = 1 := by
  refine ⟨?_, ?_, rfl⟩
  · cases lo with
    | none => simp [sliceBounds, HT.sIx]
    | some i =>
      simp only [sliceBounds, HT.sIx, Option.getD_none, show (1 : Int) > 0 by decide, if_true]
      by_cases h : i < 0
      · simp only [h, if_true] <;> omega
      · simp only [h, if_false] <;> omega
  · cases hi with
    | none => simp [sliceBounds, HT.sIx]
    | some i =>
      simp only [sliceBounds, HT.sIx, Option.getD_none, show (1 : Int) > 0 by decide, if_true]
      by_cases h : i < 0
      · simp only [h, if_true] <;> omega
      · simp only [h, if_false] <;> omega
theorem slicePick_cut (its : List Value) (lo hi : Option Int) : slicePick its.toArray lo hi none = ((its.drop (HT.sIx its.length 0 lo)).take (HT.sIx its.length its.length hi - HT.sIx its.length 0 lo)).toArray := by
  obtain ⟨h1, h2, h3⟩ := slice_bounds lo hi its.toArray.size
  unfold slicePick
  rw [h1, h2, h3]
  simp only [sliceRange_one, pick_run, List.size_toArray] <;> rfl
def rSlL (K : PySem.W.Frag) : V → Option Int → Option Int → Hp → VK → Prop := fun x lo hi H Q => ∃ a xs, x = .ref a ∧ SqL K H a xs ∧ ∀ p, H p = none → Q (.ref p) (upd H p (.lst (cutV xs lo hi)))
theorem sl_list : SlR X (rSlL X.K) := by
  intro pins s σ H x v vl vu lo hi sl Q I rx hs pl pu h
  obtain ⟨a, xs, rfl, hx, q⟩ := h
  cases rx
  obtain ⟨its, r, ht, hz⟩ := I.list hx
  have hlen := r.length
  refine ⟨"list", _, slot_list_getitem.lookup, ht.isList.typeIs, ?_⟩
  refine wpAny_getItem_list_slice ht.isList hs pl pu .none (by simp) ?_ (by rw [List.size_toArray] <;> omega)
  rw [slicePick_cut, ← hlen]
  refine ⟨.ref s.heap.objs.size, _, I.laid (t' := s.toks) (o := .lst (cutV xs lo hi)) (fun b ob q => Heap.get?_push_of_some _ q) (Nat.le_refl _) ?_, rfl, q _ (I.hok.fresh (Nat.le_refl _))⟩
  exact ⟨Nat.le_trans (cutV_length xs lo hi) hz, _, 0, (r.drop (HT.sIx xs.length 0 lo)).take (HT.sIx xs.length xs.length hi - HT.sIx xs.length 0 lo), Heap.get?_push_size _ rfl⟩
def flatV : V → Bool
  | .non => true
  | .bl _ => true
  | .int _ => true
  | .str _ => true
  | _ => false
def eqV : V → V → Bool
  | .non, .non => true
  | .bl a, .bl b => a == b
  | .bl a, .int b => (if a then 1 else 0) == b
  | .int a, .bl b => a == (if b then 1 else 0)
  | .int a, .int b => a == b
  | .str a, .str b => a == b
  | _, _ => false
theorem eqAt_V {A : Around} {s : Shared} {y x : V} {u v : Value} (ry : RelV y u) (rx : RelV x v) (fy : flatV y = true) (fx : flatV x = true) : SeqAt.EqAt A s u v (eqV y x) := by
  cases y with
  | non =>
    cases ry
    cases x with
    | non => cases rx; exact SeqAt.EqAt.same _
    | bl b => cases rx; exact SeqAt.EqAt.none_bool b
    | int b => obtain ⟨t, rfl⟩ := rx; exact SeqAt.EqAt.none_int b t
    | str b => obtain ⟨t, rfl⟩ := rx; exact SeqAt.EqAt.none_str b t
    | _ => exact absurd (show false = true from fx) Bool.false_ne_true
  | bl a =>
    cases ry
    cases x with
    | non => cases rx; exact SeqAt.EqAt.bool_none a
    | bl b => cases rx; exact SeqAt.EqAt.bool_bool a b
    | int b => obtain ⟨t, rfl⟩ := rx; exact SeqAt.EqAt.bool_int a b t
    | str b => obtain ⟨t, rfl⟩ := rx; exact SeqAt.EqAt.bool_str a b t
    | _ => exact absurd (show false = true from fx) Bool.false_ne_true
  | int a =>
    obtain ⟨t', rfl⟩ := ry
    cases x with
    | non => cases rx; exact SeqAt.EqAt.int_none a t'
    | bl b => cases rx; exact SeqAt.EqAt.int_bool a t' b
    | int b => obtain ⟨t, rfl⟩ := rx; exact SeqAt.EqAt.int_int a t' b t
    | str b => obtain ⟨t, rfl⟩ := rx; exact SeqAt.EqAt.int_str a t' b t
    | _ => exact absurd (show false = true from fx) Bool.false_ne_true
  | str a =>
    obtain ⟨t', rfl⟩ := ry
    cases x with
    | non => cases rx; exact SeqAt.EqAt.str_none a t'
    | bl b => cases rx; exact SeqAt.EqAt.str_bool a t' b
    | int b => obtain ⟨t, rfl⟩ := rx; exact SeqAt.EqAt.str_int a t' b t
    | str b => obtain ⟨t, rfl⟩ := rx; exact SeqAt.EqAt.str_str a t' b t
    | _ => exact absurd (show false = true from fx) Bool.false_ne_true
  | _ => exact absurd (show false = true from fy) Bool.false_ne_true
def eqU (x : V) (u : Value) : Bool := match u with
  | .none => eqV .non x
  | .bool b => eqV (.bl b) x
  | .int i _ => eqV (.int i) x
  | .str z _ => eqV (.str z) x
  | _ => false
theorem eqU_of {x y : V} {u : Value} (r : RelV y u) (f : flatV y = true) : eqU x u = eqV y x := by
  cases y with
  | non => cases r; rfl
  | bl b => cases r; rfl
  | int i => obtain ⟨t, rfl⟩ := r; rfl
  | str z => obtain ⟨t, rfl⟩ := r; rfl
  | _ => exact absurd (show false = true from f) Bool.false_ne_true
theorem any_eqU {x : V} : ∀ {xs : List V} {us : List Value}, Vals xs us → xs.all flatV = true → us.any (eqU x) = xs.any fun y => eqV y x
  | _, _, .nil, _ => rfl
  | y :: xs, u :: us, .cons r t, f => by
    rw [List.all_cons, Bool.and_eq_true] at f
    rw [List.any_cons, List.any_cons, eqU_of r f.1, any_eqU t f.2]
theorem mem_eqAt {A : Around} {s : Shared} {x : V} {v : Value} (rx : RelV x v) (fx : flatV x = true) : ∀ {xs : List V} {us : List Value}, Vals xs us → xs.all flatV = true → ∀ u ∈ us, SeqAt.EqAt A s u v (eqU x u)
  | _, _, .nil, _ => fun u hu => by cases hu
  | y :: xs, u :: us, .cons r t, f => fun u' hu => by
    rw [List.all_cons, Bool.and_eq_true] at f
    rcases List.mem_cons.mp hu with rfl | hu
    · rw [eqU_of r f.1]; exact eqAt_V r rx f.1 fx
    · exact mem_eqAt rx fx t f.2 u' hu
def inV (x : V) (xs : List V) : Bool := xs.any fun y => eqV y x
def rIn (K : PySem.W.Frag) (neg : Bool) : R2 := fun x y H Q => ∃ p xs, y = .ref p ∧ (SqL K H p xs ∨ SqT K H p xs) ∧ flatV x = true ∧ xs.all flatV = true ∧ Q (.bl (if neg then !inV x xs else inV x xs)) H
theorem op_in_seq : OpR X (compareOp .In) (rIn X.K false) := by
  intro pins s σ H x y v u Q I rx ry h
  obtain ⟨p, xs, rfl, hq, fx, fs, q⟩ := h
  cases ry
  rcases hq with hq | hq
  · obtain ⟨its, r, pl, hz⟩ := I.list hq
    refine SeqAt.in_listAt (eqU x) pl.isList (fun w hw => mem_eqAt rx fx r fs w (by simpa using hw)) ⟨.bl _, H, I, rfl, ?_⟩
    rw [show its.toArray.any (eqU x) = its.any (eqU x) by simp, any_eqU r fs]
    exact q
  · obtain ⟨its, r, pl, hz⟩ := I.tuple hq
    refine SeqAt.in_tupleAt (eqU x) pl (fun w hw => mem_eqAt rx fx r fs w (by simpa using hw)) ⟨.bl _, H, I, rfl, ?_⟩
    rw [show its.toArray.any (eqU x) = its.any (eqU x) by simp, any_eqU r fs]
    exact q
theorem op_notIn_seq : OpR X (compareOp .NotIn) (rIn X.K true) := by
  intro pins s σ H x y v u Q I rx ry h
  obtain ⟨p, xs, rfl, hq, fx, fs, q⟩ := h
  cases ry
  rcases hq with hq | hq
  · obtain ⟨its, r, pl, hz⟩ := I.list hq
    refine SeqAt.notIn_listAt (eqU x) pl.isList (fun w hw => mem_eqAt rx fx r fs w (by simpa using hw)) ⟨.bl _, H, I, rfl, ?_⟩
    rw [show its.toArray.any (eqU x) = its.any (eqU x) by simp, any_eqU r fs]
    exact q
  · obtain ⟨its, r, pl, hz⟩ := I.tuple hq
    refine SeqAt.notIn_tupleAt (eqU x) pl (fun w hw => mem_eqAt rx fx r fs w (by simpa using hw)) ⟨.bl _, H, I, rfl, ?_⟩
    rw [show its.toArray.any (eqU x) = its.any (eqU x) by simp, any_eqU r fs]
    exact q
theorem call_len_seq : CallR X (.builtin "len") (fun xs H Q => ∃ p ys, xs = [.ref p] ∧ (SqL X.K H p ys ∨ SqT X.K H p ys) ∧ Q (.int ys.length) H) := by
  intro pins s σ H xs us Q I r h
  obtain ⟨p, ys, rfl, hq, q⟩ := h
  obtain ⟨u, rfl, rx⟩ := vals1 r
  cases rx
  have hn := line63
  rcases hq with hq | hq
  · obtain ⟨its, r', pl, hz⟩ := I.list hq
    have hlen := r'.length
    exact Calls.call_len_list pl.isList (by simp only [List.size_toArray] <;> omega) ⟨.int ys.length, H, I.tok _, ⟨s.toks + 1, by rw [List.size_toArray, hlen]⟩, q⟩
  · obtain ⟨its, r', pl, hz⟩ := I.tuple hq
    have hlen := r'.length
    exact len_tuple pl (by simp only [List.size_toArray] <;> omega) ⟨.int ys.length, H, I.tok _, ⟨s.toks + 1, by rw [List.size_toArray, hlen]⟩, q⟩
theorem call_list_of : CallR X (.type "list") (fun xs H Q => ∃ p ys, xs = [.ref p] ∧ (SqL X.K H p ys ∨ SqT X.K H p ys) ∧ ∀ l, H l = none → Q (.ref l) (upd H l (.lst ys))) := by
  intro pins s σ H xs us Q I r h
  obtain ⟨p, ys, rfl, hq, q⟩ := h
  obtain ⟨u, rfl, rx⟩ := vals1 r
  cases rx
  have fin : ∀ (its : List Value), Vals ys its → ys.length ≤ sizeLine → ∀ (h' : Heap) (c' : Nat), (∀ b o', s.heap.get? b = some o' → h'.get? b = some o') →
      h'.get? s.heap.objs.size = some { cls := .type "list", dict := none, data := .seq its.toArray c', slots := #[] } → EP X pins σ Q (.ref s.heap.objs.size) { s with heap := h' } := fun its r' hz h' c' kp e =>
    ⟨.ref s.heap.objs.size, _, I.laid (t' := s.toks) kp (Nat.le_refl _) (show ObjOk X.prog X.w _ h' _ (.lst ys) from ⟨hz, its, c', r', e⟩), rfl, q _ (I.hok.fresh (Nat.le_refl _))⟩
  rcases hq with hq | hq
  · obtain ⟨its, r', pl, hz⟩ := I.list hq
    have hlen := r'.length
    obtain ⟨o, ho, hc, n, hd⟩ := pl.isList
    exact call_list_seq p (.inl rfl) ho hc hd (fun h' c' kp e => fin its r' hz h' c' kp e) (by simp only [List.size_toArray] <;> omega)
  · obtain ⟨its, r', pl, hz⟩ := I.tuple hq
    have hlen := r'.length
    obtain ⟨o, ho, hc, n, hd⟩ := pl
    exact call_list_seq p (.inr rfl) ho hc hd (fun h' c' kp e => fin its r' hz h' c' kp e) (by simp only [List.size_toArray] <;> omega)
theorem call_tuple_of : CallR X (.type "tuple") (fun xs H Q => ∃ p ys, xs = [.ref p] ∧ ((SqL X.K H p ys ∧ ∀ l, H l = none → Q (.ref l) (upd H l (.tup ys))) ∨ (SqT X.K H p ys ∧ Q (.ref p) H))) := by
  intro pins s σ H xs us Q I r h
  obtain ⟨p, ys, rfl, h⟩ := h
  obtain ⟨u, rfl, rx⟩ := vals1 r
  cases rx
  rcases h with ⟨hq, q⟩ | ⟨hq, q⟩
  · obtain ⟨its, r', pl, hz⟩ := I.list hq
    have hlen := r'.length
    refine call_tuple_list pl.isList (fun h' kp => ?_) (by simp only [List.size_toArray] <;> omega)
    have I1 : Inv X pins σ H { s with heap := h' } := I.kept (t' := s.toks) kp
    have I2 : Inv X pins σ (upd H h'.objs.size (.tup ys)) { s with heap := h'.push { cls := .type "tuple", data := .seq its.toArray } } :=
      I1.laid (t' := s.toks) (fun b o e => Heap.get?_push_of_some _ e) (Nat.le_refl _) (show ObjOk X.prog X.w _ _ _ (.tup ys) from ⟨hz, its, r', IsTup.new _ _⟩)
    exact ⟨.ref h'.objs.size, _, I2, rfl, q _ (I1.hok.fresh (Nat.le_refl _))⟩
  · obtain ⟨its, r', pl, hz⟩ := I.tuple hq
    exact call_tuple_same pl ⟨.ref p, H, I, rfl, q⟩
def tyV (K : PySem.W.Frag) (T : String) (x : V) (H : Hp) : Prop := match x with
  | .str _ => T = "str"
  | .int _ => T = "int"
  | .ref p => (T = "list" ∧ ∃ xs, SqL K H p xs) ∨ (T = "tuple" ∧ ∃ o, K.lookup p = some o ∧ o.cls = .type "tuple" ∧ o.dict = none) ∨
      (T = "dict" ∧ ((∃ kvs, H p = some (.dK kvs)) ∨ ∃ kvs, H p = some (.dT kvs))) ∨ (T = "set" ∧ ∃ S n, H p = some (.set S n))
  | _ => False
theorem tyV_is {pins : List (Addr × Obj)} {σ : St} {H : Hp} {s : Shared} {T : String} {x : V} {v : Value} (I : Inv X pins σ H s) (r : RelV x v) (ty : tyV X.K T x H) :
    s.TypeIs v T ∧ ∀ a, v = .ref a → ∃ ob, s.heap.get? a = some ob ∧ ob.dict = none := by
  cases x with
  | str z =>
    obtain ⟨t, rfl⟩ := r
    cases (show T = "str" from ty)
    exact ⟨typeIs_str s z t, fun _ e => nomatch e⟩
  | int i =>
    obtain ⟨t, rfl⟩ := r
    cases (show T = "int" from ty)
    exact ⟨typeIs_int s i t, fun _ e => nomatch e⟩
  | ref p =>
    cases r
    rcases ty with ⟨rfl, xs, hq⟩ | ⟨rfl, o, hk, hc, hd⟩ | ⟨rfl, hk⟩ | ⟨rfl, S, n, hk⟩
    · obtain ⟨its, _, pl, _⟩ := I.list hq
      refine ⟨pl.isList.typeIs, fun a e => ?_⟩
      cases e
      obtain ⟨o, n, e, c, hd, _⟩ := pl
      exact ⟨o, e, hd⟩
    · refine ⟨⟨o, I.kIn p o hk, hc⟩, fun a e => ?_⟩
      cases e
      exact ⟨o, I.kIn _ o hk, hd⟩
    · have z : ∃ o, s.heap.get? p = some o ∧ o.ExactDict := by
        rcases hk with ⟨kvs, hk⟩ | ⟨kvs, hk⟩
        · obtain ⟨_, _, _, _, o, _, _, e, ex, _⟩ := I.hok p _ hk
          exact ⟨o, e, ex⟩
        · obtain ⟨_, _, _, _, o, _, _, e, ex, _⟩ := I.hok p _ hk
          exact ⟨o, e, ex⟩
      obtain ⟨o, e, ex⟩ := z
      refine ⟨⟨o, e, ex.1⟩, fun a e2 => ?_⟩
      cases e2
      exact ⟨o, e, ex.2.1⟩
    · obtain ⟨o, _, _, _, e, ex, _⟩ := I.hok p _ hk
      refine ⟨⟨o, e, ex.1⟩, fun a e2 => ?_⟩
      cases e2
      exact ⟨o, e, ex.2.1⟩
  | _ => exact False.elim ty
def tBM0 (K : PySem.W.Frag) (T : String) (r : V → List V → Hp → VK → Prop) (to : TE) : TE := fun σ H Q => to σ H fun x H1 => tyV K T x H1 ∧ r x [] H1 Q
def tBM (K : PySem.W.Frag) (T : String) (r : V → List V → Hp → VK → Prop) (to : TE) (t : TA) : TE := fun σ H Q => to σ H fun x H1 => tyV K T x H1 ∧ t σ H1 fun xs H2 => r x xs H2 Q
variable {o e : Expr} {es : List Expr} {to : TE} {t : TA} {name : Str} {apos cpos : Pos} {T id : String} {r : V → List V → Hp → VK → Prop}
theorem pe_bm0 (pa : PlainAttrs T) (slot : Slot T name id) (hty : typeOf (.builtin id) = pure (.type "method_descriptor")) (hm : MtR X id r) (ho : PE X o to)
    (hbase : attributeBase o name X.env (eval o X.env) = eval o X.env := by rfl) (hline : (apos.endLine == cpos.line) = true := by rfl) : PE X (.Call (.Attribute o name apos) [] [] cpos) (tBM0 X.K T r to) := by
  intro pins s σ H Q I h
  refine wpAny_Call_method0_late hbase hline (thn (ho pins s σ H _ I h) fun v s1 hh => ?_)
  obtain ⟨x, H1, I1, r1, ty, q1⟩ := hh
  obtain ⟨h1, h2⟩ := tyV_is I1 r1 ty
  exact ⟨T, id, pa, slot, hty, h1, h2, Calls.callWith_builtin rfl (PySem.evalArgs_none (hm pins s1 σ H1 x [] v [] Q I1 r1 .nil q1))⟩
theorem pe_bm (pa : PlainAttrs T) (slot : Slot T name id) (hty : typeOf (.builtin id) = pure (.type "method_descriptor")) (hm : MtR X id r) (ho : PE X o to) (ha : PA X (e :: es) t)
    (hbase : attributeBase o name X.env (eval o X.env) = eval o X.env := by rfl)
    (hfew : ((backTo cpos (starEach (e :: es) X.env)).all (fun x => !x.1) && (backToKw cpos (keywordEach [] X.env)).all (fun x => x.1.isSome)
      && decide ((e :: es).length + ([] : List Keyword).length + (if ([] : List Keyword).isEmpty then 0 else 1) < 30)) = true := by rfl)
    (hline : (apos.endLine == cpos.line) = true := by rfl) (hs : starEach (e :: es) X.env = (false, eval e X.env) :: starEach es X.env := by rfl) (hplain : (backTo cpos (starEach es X.env)).any (·.1) = false := by rfl) :
    PE X (.Call (.Attribute o name apos) (e :: es) [] cpos) (tBM X.K T r to t) := by
  intro pins s σ H Q I h
  refine wpAny_Call_method_late hbase hfew hline rfl (thn (ho pins s σ H _ I h) fun v s1 hh => ?_)
  obtain ⟨x, H1, I1, r1, ty, q1⟩ := hh
  obtain ⟨h1, h2⟩ := tyV_is I1 r1 ty
  refine ⟨T, id, pa, slot, hty, h1, h2, ?_⟩
  have hA := ha cpos pins s1 σ H1 _ I1 q1
  rw [hs] at hA ⊢
  refine Calls.callWith_builtin (by show (false || (backTo cpos (starEach es X.env)).any (·.1)) = false; rw [hplain] <;> rfl) (Calls.evalArgs_plain ?_)
  exact thn hA fun us s2 ⟨vs, H2, I2, r2, q2⟩ => hm pins s2 σ H2 x vs v us Q I2 r1 r2 q2
end
end L2
namespace L2
open PySem PySem.Spec PyProof.Rows
def MtM (X : Cx) (id : String) (r : V → List V → Hp → VK → Prop) : Prop :=
  ∀ (pins : List (Addr × Obj)) (s : Shared) (σ : St) (H : Hp) (x : V) (xs : List V) (v : Value) (us : List Value) (Q : VK), Inv X pins σ H s → RelV x v → Vals xs us → r x xs H Q →
    wpAny (model X.prog X.w) X.A (call (.builtin id) (v :: us)) (EP X pins σ Q) X.xe s
theorem Vals.one : ∀ {x : V} {us : List Value}, Vals [x] us → ∃ u, us = [u] ∧ RelV x u
  | _, _, .cons r .nil => ⟨_, rfl, r⟩
theorem Vals.zero : ∀ {us : List Value}, Vals [] us → us = []
  | _, .nil => rfl
theorem Vals.eraseIdx : ∀ {xs : List V} {us : List Value} (i : Nat), Vals xs us → Vals (xs.eraseIdx i) (us.eraseIdx i)
  | _, _, _, .nil => .nil
  | _, _, 0, .cons _ t => t
  | _, _, i + 1, .cons r t => .cons r (Vals.eraseIdx i t)
theorem Vals.rep {xs : List V} {us : List Value} (h : Vals xs us) : ∀ k : Nat, Vals (List.replicate k xs).flatten (List.replicate k us).flatten
  | 0 => .nil
  | k + 1 => by
    rw [List.replicate_succ, List.replicate_succ, List.flatten_cons, List.flatten_cons]
    exact Vals.append h (Vals.rep h k)
theorem len_erase {α : Type} : ∀ (l : List α) (i : Nat), (l.eraseIdx i).length ≤ l.length
  | [], _ => Nat.le_refl _
  | _ :: _, 0 => Nat.le_succ _
  | _ :: r, i + 1 => Nat.succ_le_succ (len_erase r i)
theorem foldl_rep (its : List Value) : ∀ (k : Nat) (acc : List Value),
    List.foldl (fun x1 x2 => x1 ++ x2) acc.toArray (List.replicate k its.toArray) = (acc ++ (List.replicate k its).flatten).toArray
  | 0, acc => by simp
  | k + 1, acc => by
    have e : acc.toArray ++ its.toArray = (acc ++ its).toArray := by simp
    have e2 : (acc ++ its) ++ (List.replicate k its).flatten = acc ++ (List.replicate (k + 1) its).flatten := by
      rw [List.replicate_succ, List.flatten_cons, List.append_assoc]
    rw [← e2, ← foldl_rep its k (acc ++ its), ← e, List.replicate_succ, List.foldl_cons]
section
variable {X : Cx} {pins : List (Addr × Obj)} {σ : St} {H : Hp} {s : Shared} {l b : Addr} {xs ys zs : List V}
theorem Inv.lset {its its' : List Value} {n : Nat} {f : Array Value → Array Value} {t' : Nat} (I : Inv X pins σ H s) (hH : H l = some (.lst xs))
    (e : s.heap.get? l = some { cls := .type "list", data := .seq its.toArray n }) (hf : f its.toArray = its'.toArray) (hv : Vals ys its') (hz : ys.length ≤ sizeLine) :
    Inv X pins σ (upd H l (.lst ys)) { s with heap := s.heap.update l (Obj.mapSeq f), toks := t' } := by
  have q := PySem.IsL.update e f
  rw [hf] at q
  refine I.write (x := l) (e := l) (by rw [hH]; exact trivial) (.inl rfl) (fun b' u hb hu => (Heap.get?_update_other s.heap (Obj.mapSeq f) (Ne.symm hb)).trans hu) ⟨_, q⟩ ?_
  exact ⟨hz, its', _, hv, q⟩
theorem Inv.lnew {its : List Value} {t' : Nat} (I : Inv X pins σ H s) (hv : Vals ys its) (hz : ys.length ≤ sizeLine) :
    Inv X pins σ (upd H s.heap.objs.size (.lst ys)) { s with heap := s.heap.push { cls := .type "list", data := .seq its.toArray }, toks := t' } :=
  I.laid (fun _ _ q => Heap.get?_push_of_some _ q) (Nat.le_refl _) ⟨hz, its, 0, hv, Heap.get?_push_size _ rfl⟩
theorem Inv.fresh (I : Inv X pins σ H s) : H s.heap.objs.size = none := I.hok.fresh (Nat.le_refl _)
theorem Inv.lstM (I : Inv X pins σ H s) (hH : H l = some (.lst xs)) : xs.length ≤ sizeLine ∧ ∃ (its : List Value) (n : Nat), Vals xs its ∧ xs.length = its.length ∧ s.heap.get? l = some { cls := .type "list", data := .seq its.toArray n } := by
  obtain ⟨z, its, n, r, e⟩ := I.hok l _ hH
  exact ⟨z, its, n, r, r.length, e⟩
theorem notLongL {n : Nat} (h : n ≤ sizeLine) : Builtin.List.listTooLong n = false := by
  unfold Builtin.List.listTooLong
  exact decide_eq_false (by omega)
end
section
variable {X : Cx}
def rAppend : V → List V → Hp → VK → Prop := fun x vs H Q => ∃ l xs y, x = .ref l ∧ vs = [y] ∧ H l = some (.lst xs) ∧ xs.length < sizeLine ∧ Q .non (upd H l (.lst (xs ++ [y])))
theorem mt_append : MtM X "list.append" rAppend := by
  intro pins s σ H x vs v us Q I rx rv h
  obtain ⟨l, xs, y, rfl, rfl, hH, hz, q⟩ := h
  cases rx
  obtain ⟨u, rfl, ru⟩ := rv.one
  obtain ⟨z, its, n, r, hl, e⟩ := I.lstM hH
  refine call_meets F.slot_list_append ⟨_, e, rfl⟩ F.entry_list_append (F.args_list_append_2 _ _) (PySem.list_append l its.toArray n u (by rw [List.size_toArray]; omega)) ⟨e, ?_⟩
  refine ⟨.non, _, I.lset (its' := its ++ [u]) hH e (by simp) (r.append (.cons ru .nil)) ?_, rfl, q⟩
  rw [List.length_append, List.length_singleton]
  omega
def rExtend : V → List V → Hp → VK → Prop := fun x vs H Q => ∃ l b xs zs, x = .ref l ∧ vs = [.ref b] ∧ H l = some (.lst xs) ∧ H b = some (.lst zs) ∧ xs.length + zs.length ≤ sizeLine ∧ Q .non (upd H l (.lst (xs ++ zs)))
theorem mt_extend : MtM X "list.extend" rExtend := by
  intro pins s σ H x vs v us Q I rx rv h
  obtain ⟨l, b, xs, zs, rfl, rfl, hH, hB, hz, q⟩ := h
  cases rx
  obtain ⟨u, rfl, ru⟩ := rv.one
  cases ru
  obtain ⟨z, its, n, r, hl, e⟩ := I.lstM hH
  obtain ⟨z2, its2, n2, r2, hl2, e2⟩ := I.lstM hB
  have hsz : its.toArray.size + its2.toArray.size ≤ sizeLine := by rw [List.size_toArray, List.size_toArray]; omega
  have hlong : ¬ (!its.toArray.isEmpty && Builtin.List.listTooLong (its.toArray.size + its2.toArray.size)) = true := by
    rw [notLongL hsz, Bool.and_false]
    exact Bool.false_ne_true
  refine call_meets F.slot_list_extend ⟨_, e, rfl⟩ F.entry_list_extend (F.args_list_extend_2 _ _)
    (AutoSeq1.list_extend_list_list_0 l its.toArray n b its2.toArray n2 hlong (by rw [List.size_toArray]; omega) (by omega)) ⟨e, e2, ?_⟩
  refine ⟨.non, _, I.lset (its' := its ++ its2) hH e (by simp) (r.append r2) ?_, rfl, q⟩
  rw [List.length_append]
  omega
def rPopAt : V → List V → Hp → VK → Prop := fun x vs H Q => ∃ l xs i k y, x = .ref l ∧ vs = [.int i] ∧ H l = some (.lst xs) ∧ -(2 ^ 63) ≤ i ∧ i < 2 ^ 63 ∧ seqIndex? i xs.length = some k ∧ xs[k]? = some y ∧ Q y (upd H l (.lst (xs.eraseIdx k)))
theorem mt_popAt : MtM X "list.pop" rPopAt := by
  intro pins s σ H x vs v us Q I rx rv h
  obtain ⟨l, xs, i, k, y, rfl, rfl, hH, h1, h2, hk, hy, q⟩ := h
  cases rx
  obtain ⟨u, rfl, ru⟩ := rv.one
  obtain ⟨t, rfl⟩ := ru
  obtain ⟨z, its, n, r, hl, e⟩ := I.lstM hH
  obtain ⟨w, hw, rw'⟩ := r.get hy
  refine call_meets F.slot_list_pop ⟨_, e, rfl⟩ F.entry_list_pop (F.args_list_pop_2 _ _)
    (MeetsSeq.list_pop_at l its.toArray n i t k w (fitsIndex_both h1 h2) (by rw [List.size_toArray, ← hl]; exact hk) (by rw [← Array.getElem?_toList]; exact hw) (by rw [List.size_toArray]; omega)) ⟨e, ?_⟩
  refine ⟨y, _, I.lset (its' := its.eraseIdx k) hH e ?_ (r.eraseIdx k) ?_, rw', q⟩
  · show its.toArray.eraseIdxIfInBounds k = (its.eraseIdx k).toArray
    rw [List.eraseIdxIfInBounds_toArray]
  · have := len_erase xs k
    omega
def rClear : V → List V → Hp → VK → Prop := fun x vs H Q => ∃ l xs, x = .ref l ∧ vs = [] ∧ H l = some (.lst xs) ∧ Q .non (upd H l (.lst []))
theorem mt_clear : MtM X "list.clear" rClear := by
  intro pins s σ H x vs v us Q I rx rv h
  obtain ⟨l, xs, rfl, rfl, hH, q⟩ := h
  cases rx
  have hus := rv.zero
  subst hus
  obtain ⟨z, its, n, r, hl, e⟩ := I.lstM hH
  refine call_meets F.slot_list_clear ⟨_, e, rfl⟩ F.entry_list_clear (F.args_list_clear_1 _) (AutoSeq1.list_clear_list_0 l its.toArray n (by rw [List.size_toArray]; omega)) ⟨e, ?_⟩
  exact ⟨.non, _, I.lset (its' := []) (ys := []) hH e rfl .nil (Nat.zero_le _), rfl, q⟩
def rCat : R2 := fun x y H Q => ∃ l b xs zs, x = .ref l ∧ y = .ref b ∧ H l = some (.lst xs) ∧ H b = some (.lst zs) ∧ xs.length + zs.length ≤ sizeLine ∧ ∀ p, H p = none → Q (.ref p) (upd H p (.lst (xs ++ zs)))
theorem op_cat : OpR X (binaryOp .Add) rCat := by
  intro pins s σ H x y v u Q I rx ry h
  obtain ⟨l, b, xs, zs, rfl, rfl, hH, hB, hz, q⟩ := h
  cases rx
  cases ry
  obtain ⟨z, its, n, r, hl, e⟩ := I.lstM hH
  obtain ⟨z2, its2, n2, r2, hl2, e2⟩ := I.lstM hB
  refine PySem.P.add_list e e2 ?_ (by rw [List.size_toArray, List.size_toArray]; omega)
  have ea : its.toArray ++ its2.toArray = (its ++ its2).toArray := by simp
  rw [ea]
  exact ⟨.ref _, _, I.lnew (t' := s.toks) (r.append r2) (by rw [List.length_append]; omega), rfl, q _ I.fresh⟩
def rRep : R2 := fun x y H Q => ∃ l k xs, x = .ref l ∧ y = .int k ∧ H l = some (.lst xs) ∧ -(2 ^ 63) ≤ k ∧ k < 2 ^ 63 ∧ xs.length * k.toNat ≤ sizeLine ∧
  ∀ p, H p = none → Q (.ref p) (upd H p (.lst (List.replicate k.toNat xs).flatten))
theorem len_rep {α : Type} (xs : List α) (k : Nat) : (List.replicate k xs).flatten.length = k * xs.length := by
  induction k with
  | zero => simp
  | succ k ih => rw [List.replicate_succ, List.flatten_cons, List.length_append, ih, Nat.succ_mul, Nat.add_comm]
theorem op_rep : OpR X (binaryOp .Mult) rRep := by
  intro pins s σ H x y v u Q I rx ry h
  obtain ⟨l, k, xs, rfl, rfl, hH, h1, h2, hz, q⟩ := h
  cases rx
  obtain ⟨t, rfl⟩ := ry
  obtain ⟨z, its, n, r, hl, e⟩ := I.lstM hH
  have hlen : its.toArray.size * k.toNat ≤ sizeLine := by rw [List.size_toArray, ← hl]; exact hz
  have hcap : ¬ its.toArray.size * k.toNat > (2 ^ 63 - 1) / 8 := by
    have : (sizeLine : Nat) ≤ (2 ^ 63 - 1) / 8 := by decide
    omega
  have hfit : ¬ (!Builtin.List.listFitsIndex k) = true := by
    rw [fitsIndex_both h1 h2]
    exact Bool.false_ne_true
  have hlong : ¬ Builtin.List.listTooLong (its.toArray.size * k.toNat) = true := by
    rw [notLongL hlen]
    exact Bool.false_ne_true
  have hnew : List.foldl (fun x1 x2 => x1 ++ x2) #[] (List.replicate (if its.toArray.isEmpty = true then 0 else k.toNat) its.toArray) = (List.replicate k.toNat its).flatten.toArray := by
    have f0 : ∀ m : Nat, List.foldl (fun x1 x2 => x1 ++ x2) #[] (List.replicate m its.toArray) = (List.replicate m its).flatten.toArray := fun m => by
      have := foldl_rep its m []
      rw [List.nil_append] at this
      exact this
    rw [f0]
    cases its with
    | nil => simp
    | cons a r' => rw [if_neg (by simp)]
  refine wpAny_binaryOp_repeat_ref (T := "list") (U := "int") (by decide) ⟨_, e, rfl⟩ (fun s' => typeIs_int s' k t) noFill_list_mul F.fills_int_mul F.slot_int_rmul repeat_list F.slot_int_index.lookup
    (call_meets F.slot_int_rmul (typeIs_int s k t) F.entry_int_rmul (F.args_int_rmul_2 _ _) (int___rmul___int_list k t l its.toArray n)
      ⟨e, rfl, ⟨_, e, rfl⟩, call_meets F.slot_list_mul ⟨_, e, rfl⟩ F.entry_list_mul (F.args_list_mul_2 _ _) (AutoListH.list___mul___list_int_3 l its.toArray n k t hfit hcap hlong) ⟨e, ?_⟩⟩)
  rw [hnew]
  exact ⟨.ref _, _, I.lnew (t' := s.toks) (r.rep k.toNat) (by rw [len_rep, Nat.mul_comm]; exact hz), rfl, q _ I.fresh⟩
end
section
variable {prog : Program} {w : World} {A : Around} {E : Value → Shared → Prop} {s : Shared}
end
section
variable {X : Cx}
end
end L2
namespace Att
open PySem PySem.W PySem.Calls PyProof.Rows
theorem ints_of_wellAll {P : Params} {h : Heap} : ∀ (ns : List Int) (vs : List Value), WellAll P h vs (ns.map WData.int) → IntsAre vs ns := by
  intro ns
  induction ns with
  | nil =>
    intro vs w
    rw [List.map_nil] at w
    cases w
    exact .nil
  | cons n ns ih =>
    intro vs w
    rw [List.map_cons] at w
    cases w with
    | cons a b =>
      cases a
      exact .cons _ _ (ih _ b)
theorem script_of {l : OpenLaw} {n : Nat} (hn : l.most = some n) {P : Params} {h : Heap} {args : List WData} {vals : List Value}
    (hpre : l.row.toRowW.claim.pre args = true) (hwl : WellAll P h vals args) :
    ∃ a vs ns, vals = [Value.ref a] ∧ args = [WData.list (ns.map WData.int)] ∧ h.get? a = some { cls := .type "list", data := .seq vs.toArray } ∧ IntsAre vs ns ∧ ns.length ≤ n := by
  have hsh : WShape.hasAll [] args [.list .int] = true := (pre_splitW hpre).1
  have hc : l.pre.holds [] { args := args } = true := (pre_splitW hpre).2
  obtain ⟨d, r, rfl, h1, h2⟩ := hasAllW_cons hsh
  obtain rfl := hasAllW_nil h2
  obtain ⟨xs, rfl, h3⟩ := hasW_list h1
  obtain ⟨ns, rfl⟩ := items_int h3
  have hlen : ns.length ≤ n := by
    unfold OpenLaw.pre at hc
    have h4 : (WTm.not (.lt (.lit (.int (n : Int))) (.len (.arg 0)))).holds [] { args := [.list (ns.map .int)] } = true := by
      have h4 := (holds_andW hc).1
      rw [hn] at h4
      exact h4
    have h5 := condW_of h4 (w_not (w_lt w_lit (w_len_list (w_arg rfl))))
    rw [List.length_map] at h5
    refine Nat.le_of_not_lt fun q => ?_
    have q' : (n : Int) < ((ns.length : Nat) : Int) := by omega
    first
      | (rw [decide_eq_true q'] at h5; exact absurd h5 (by decide))
      | (simp at h5; omega)
  cases hwl with
  | cons w1 w2 =>
    cases w2
    cases w1 with
    | list ho hall => exact ⟨_, _, ns, rfl, rfl, ho, ints_of_wellAll ns _ hall, hlen⟩
theorem post_true (l : OpenLaw) (args : List WData) : l.row.toRowW.claim.post args (.bool true) args = true :=
  postW_of (r := l.row.toRowW) (X := (true == true))
    (show WShape.has [] (.bool true) .bool = true by first | rfl | decide | simp [WShape.has, WShape.arms, WShape.armsAll])
    (show (WTm.eq .res (.lit (.bool true))).value [] { args := args, res := some (.bool true), after := args } = some (.bool (true == true)) from w_eq_bool (w_res rfl) w_lit) rfl
theorem attach_call {l : OpenLaw} {n : Nat} {q : Program} {loose : List Str} {XP : (Str → Option Value) → Heap → Prop} {YP : World → Heap → Prop} {d : DefRec}
    (hn : l.most = some n) (hdf : d.params.defaults = [])
    (call : ∀ (w : World) (s₀ s₁ : Shared) (mg mb : Str → Option Value) (fa : Addr) (o : Obj) (pm cd doc : Value) (a : Addr) (vs : List Value) (ns : List Int),
      Ground q loose [] XP w s₀ mg mb s₁.heap → YP w s₁.heap →
      s₁.heap.get? fa = some o → o.data = .func (docDef d.name d.params d.body d.scope pm cd doc) → s₁.heap.CodeRec cd d.name → mg d.name = some (.ref fa) →
      s₁.heap.get? a = some { cls := .type "list", data := .seq vs.toArray } → IntsAre vs ns → ns.length ≤ n → s₁.gens = #[] →
      codeAny (model l.prog w) callerA (.call (.ref fa) ⟨[.ref a], []⟩) (fun r s' => r = .ok (.ret (.bool true)) ∧ OldK s₁.heap s'.heap ∧ s'.os = s₁.os ∧ AllBare s'.gens) s₁) :
    WalkO q loose XP YP l.row.toRowW d [] (fun f vs => PySem.call f vs) := by
  intro w s₀ s₁ mg mb G Y fa o pm cd doc dV kV ho hd hcd hD hmg hg args vals as hpre hlay hrd hwl hlo
  obtain rfl : dV = .none := Dflts.none hD hdf
  obtain rfl : kV = .none := Dflts.noKw hD
  obtain ⟨a, vs, ns, rfl, rfl, hobj, hints, hlen⟩ := script_of hn hpre hwl
  refine enter_call (codeAny_mono (call w s₀ s₁ mg mb fa o pm cd doc a vs ns G Y ho (fd_plain hd) hcd hmg hobj hints hlen hg) fun r s' hq => ?_)
  obtain ⟨rfl, h2, h3, h4⟩ := hq
  exact ⟨.inl ⟨.bool true, .bool true, [], rfl, fun _ => rfl, .bool true, post_true l _, fun _ => ⟨List.Pairwise.nil, fun _ hm => (nomatch hm)⟩⟩, h2, h3, h4⟩
section
variable {prog : Program} {w : World} {A : Around} {E : Value → Shared → Prop} {s : Shared} {K : Frag}
end
end Att
namespace L2
open PySem PySem.Spec PyProof.Rows
theorem vals_ints : ∀ {vs : List Value} {ns : List Int}, IntsAre vs ns → Vals (ns.map V.int) vs
  | _, _, .nil => .nil
  | _, _, .cons n t h => .cons ⟨t, rfl⟩ (vals_ints h)
def Only (H : Hp) : Prop := ∀ b, H b = none ∨ ∃ o xs, H b = some (.frz o (.lst xs))
theorem law_call {P : Program} {w : World} {K : PySem.W.Frag} {mg mb : Str → Option Value} {CX : CXT} {k : Nat} {fa a : Addr} {fd : FuncData} {x : Str} {sp : Sp} {s₁ : Shared} {vs : List Value} {ns : List Int}
    (KX : K.In s₁.heap) (hns : s₁.heap.Ns mainGlobals mg) (hb : s₁.heap.Ns builtinsNs mb) (hbb : ∀ x : Str, x ≠ "__name__" → mb x = bootBuiltins x) (hlim : s₁.heap.NoLimit) (hg : s₁.gens = #[])
    (ha : s₁.heap.get? a = some { cls := .type "list", data := .seq vs.toArray }) (hi : IntsAre vs ns) (hl : ns.length ≤ sizeLine) (hr : Room k callerA)
    (F : ∀ base : Heap, K.In base → base.Ns mainGlobals mg → FnOk P w K mg base CX k fa fd [x] sp) (hbind : ∀ (s : Shared) (u : Value), BindsTo s fd ⟨[u], []⟩ [(x, u)])
    (hsp : ∀ H : Hp, Only H → SqL K H a (ns.map V.int) → sp [.ref a] H (fun v _ => v = .bl true) fun _ _ _ => False)
    (hCX : ∀ H e s', CX [] H s₁ (fun _ _ _ => False) e s' → False) :
    codeAny (model P w) callerA (.call (.ref fa) ⟨[.ref a], []⟩) (fun r s' => r = .ok (.ret (.bool true)) ∧ OldK s₁.heap s'.heap ∧ s'.os = s₁.os ∧ AllBare s'.gens) s₁ := by
  have rv := vals_ints hi
  have lenV := hi.length
  -- from an abstract heap in which nothing but the script may be tracked
  have core : ∀ H : Hp, Only H → SqL K H a (ns.map V.int) → HOk P w H s₁.heap → (∀ b, H b ≠ none → b = a) → (H a ≠ none → K.lookup a = none) →
      codeAny (model P w) callerA (.call (.ref fa) ⟨[.ref a], []⟩) (fun r s' => r = .ok (.ret (.bool true)) ∧ OldK s₁.heap s'.heap ∧ s'.os = s₁.os ∧ AllBare s'.gens) s₁ := by
    intro H hO hS hok hA hK
    have base_of : ∀ {b : Addr} {o : Obj}, s₁.heap.get? b = some o → H b = none → (hidT s₁.heap H).get? b = some o := fun e n => hidT_get e n
    have noA : ∀ {b : Addr} {o : Obj} {es : Array DictEntry} {ep : Nat}, s₁.heap.get? b = some o → o.data = .dict es ep → H b = none := fun {b o es ep} e d => by
      cases q : H b with
      | none => rfl
      | some u =>
        have e' : b = a := hA b (by rw [q]; simp)
        subst e'
        rw [ha] at e; cases e
        have d' : Data.seq vs.toArray _ = Data.dict es ep := d
        cases d'
    have nsK : ∀ {b : Addr} {m : Str → Option Value}, s₁.heap.Ns b m → (hidT s₁.heap H).Ns b m := fun {b m} ⟨o, es, ep, e, d, r⟩ => ⟨o, es, ep, base_of e (noA e d), d, r⟩
    have hKb : K.In (hidT s₁.heap H) := fun b o e => base_of (KX b o e) (by
      cases q : H b with
      | none => rfl
      | some u =>
        have e' : b = a := hA b (by rw [q]; simp)
        subst e'
        rw [hK (by rw [q]; simp)] at e; cases e)
    have hM : Mod K mg (hidT s₁.heap H) := ⟨hKb, nsK hns, ⟨mb, nsK hb, hbb⟩, let ⟨mc, h1, h2⟩ := hlim; ⟨mc, nsK h1, h2⟩⟩
    have e0 : Env0 P w K mg (hidT s₁.heap H) callerA [] s₁ H := ⟨rfl, hM, fun b o e => of_hidT e, Nat.le_of_eq (hidT_size _ _), trivial, fun b hb => absurd (show b ∈ ([] : List Addr) from hb) (by simp), hok, .of_eq hg⟩
    refine codeAny_mono ((F _ hKb (nsK hns)).run callerA [] s₁ H ⟨[.ref a], []⟩ [.ref a] [.ref a] _ _ hr e0 (hbind s₁ (.ref a)) (.cons rfl .nil) (hsp H hO hS)) fun r s' h => ?_
    cases r with
    | error e => exact (hCX H e s' h).elim
    | ok fl =>
      cases fl with
      | next => exact False.elim h
      | brk => exact False.elim h
      | cont => exact False.elim h
      | ret u =>
        obtain ⟨v, H', os, bare, un, hok', r', q⟩ := h
        have q' : v = .bl true := q
        subst q'
        obtain rfl : u = Value.bool true := r'
        refine ⟨rfl, OldK.of_keep fun b o e => ?_, os, bare⟩
        cases q : H b with
        | none => exact un.keep b o e q (by intro z; exact absurd (show b ∈ ([] : List Addr) from z) (by simp)) (by simp)
        | some u =>
          rcases hO b with z | ⟨ob, xs, z⟩
          · rw [q] at z; cases z
          · have z2 := un.frzs b ob _ z
            obtain ⟨e1, _⟩ := hok b _ z
            obtain ⟨e2, _⟩ := hok' b _ z2
            rw [e] at e1; cases e1
            exact e2
  cases hk : K.lookup a with
  | some o =>
    -- the script is one of the module's own objects
    have e := KX a o hk
    rw [ha] at e
    cases e
    refine core (fun _ => none) (fun _ => .inl rfl) (.inr ⟨_, vs.toArray, _, hk, rfl, rfl, rfl, by rw [List.size_toArray, lenV]; exact hl, by simpa using rv⟩) (fun b u z => by have z' : (none : Option HO) = some u := z; cases z') (fun b z => absurd rfl z) fun z => absurd rfl z
  | none =>
    refine core (fun b => if b = a then some (.frz { cls := .type "list", data := .seq vs.toArray } (.lst (ns.map V.int))) else none) (fun b => ?_) (.inl (.inr ⟨{ cls := .type "list", data := .seq vs.toArray }, if_pos rfl⟩)) (fun b u z => ?_) (fun b z => ?_) fun _ => hk
    · by_cases hb : b = a
      · exact .inr ⟨_, _, if_pos hb⟩
      · exact .inl (if_neg hb)
    · by_cases hb : b = a
      · have z' := (if_pos hb).symm.trans z
        cases z'
        subst hb
        exact ⟨ha, by rw [List.length_map]; exact hl, vs, _, rv, ha⟩
      · have z' := (if_neg hb).symm.trans z
        cases z'
    · by_cases hb : b = a
      · exact hb
      · exact absurd (if_neg hb) z
end L2
namespace L2
open PySem PySem.Spec PyProof.Rows
theorem walk_of {l : PySem.W.OpenLaw} {n k : Nat} {q : Program} {loose : List Str} {XP : (Str → Option Value) → Heap → Prop} {YP : World → Heap → Prop} {d : DefRec} {K : Params → PySem.W.Frag} {CX : World → CXT} {sp : World → Sp} {x : Str}
    (hn : l.most = some n) (hn2 : n ≤ sizeLine) (hdf : d.params.defaults = []) (hr : Room k callerA)
    (hY : ∀ (w : World) (h : Heap), YP w h → (K w.params).In h)
    (F : ∀ (w : World) (mg : Str → Option Value) (fa : Addr) (h : Heap), (K w.params).In h → h.Ns mainGlobals mg → mg d.name = some (.ref fa) →
      ∃ fd : FuncData, (∀ (s : Shared) (u : Value), BindsTo s fd ⟨[u], []⟩ [(x, u)]) ∧
        ∀ base : Heap, (K w.params).In base → base.Ns mainGlobals mg → FnOk l.prog w (K w.params) mg base (CX w) k fa fd [x] (sp w))
    (hsp : ∀ (w : World) (H : Hp) (a : Addr) (ns : List Int), ns.length ≤ n → Only H → SqL (K w.params) H a (ns.map V.int) → sp w [.ref a] H (fun v _ => v = .bl true) fun _ _ _ => False)
    (hCX : ∀ (w : World) (H : Hp) (s : Shared) (e : Value) (s' : Shared), CX w [] H s (fun _ _ _ => False) e s' → False) :
    PySem.W.WalkO q loose XP YP l.row.toRowW d [] (fun f vs => PySem.call f vs) := by
  refine Att.attach_call hn hdf fun w s₀ s₁ mg mb fa o pm cd doc a vs ns G Y ho hd hcd hmg hobj hints hlen hg => ?_
  have KX := hY w _ Y
  obtain ⟨fd, hb, hF⟩ := F w mg fa _ KX G.T.g hmg
  exact law_call KX G.T.g G.T.b G.T.builtins G.T.nolimit hg hobj hints (Nat.le_trans hlen hn2) hr hF hb (fun H hO hS => hsp w H a ns hlen hO hS) fun H e s' => hCX w H s₁ e s'
end L2
namespace L2
open PySem PySem.Spec PyProof.Rows
def defArgs (s : Stmt) : Arguments := match s with
  | .FunctionDef _ a _ _ _ _ _ _ _ _ => a
  | _ => { posonlyargs := [], args := [], vararg := none, kwonlyargs := [], kw_defaults := [], kwarg := none, defaults := [] }
def defBody (s : Stmt) : List Stmt := match s with
  | .FunctionDef _ _ b _ _ _ _ _ _ _ => b
  | _ => []
def defScope (s : Stmt) : Scope := match s with
  | .FunctionDef _ _ _ _ _ _ sc _ _ _ => sc
  | _ => { kind := .function, names := [], isGenerator := false, isCoroutine := false }
abbrev CX0 : CXT := fun _ _ _ _ _ _ => False
abbrev E0 : XK := fun _ _ _ => False
theorem pass0 {X : Cx} : Passes CX0 X E0 := fun _ _ _ _ _ _ _ h => h.elim
structure Fun (K : PySem.W.Frag) (x qual : Str) (st : Stmt) (f : Addr) (fd : FuncData) : Prop where
  ex : ∃ (oc : Value) (od : Option Addr) (kV doc pm : Value) (an : Option Addr) (cdv ct : Value) (osl : Array (Option Value)),
    fd = PySem.W.fnOf x qual (defArgs st) (defBody st) (defScope st) .none kV doc pm an cdv ct ∧ K.lookup f = some ⟨oc, od, .func fd, osl⟩ ∧ PySem.W.codeIn K cdv qual = true
  kp : PySem.W.keepIn K (.ref f) = true
section
variable {P : Program} {w : World} {K : PySem.W.Frag} {mg : Str → Option Value} {base : Heap}
theorem Fun.ok {x qual : Str} {st : Stmt} {f : Addr} {fd : FuncData} {N ps : List Str} {k : Nat} {sp : Sp} (F : Fun K x qual st f fd) (S : FnScope N ps (defScope st)) (len : ∀ vs H Q E, sp vs H Q E → vs.length = ps.length)
    (hbody : ∀ (cdv : Value) (A : Around) (outer : List Env) (s : Shared) (H : Hp) (vs : List V) (Q : VK) (E : XK), Room k (A.deeper (envOfC qual (defScope st) s.heap.objs.size f cdv)) → sp vs H Q E →
      ∃ t, PSs (cxOf CX0 P w K mg base N qual (defScope st) f cdv A outer s H E).nox (defBody st) t ∧ t { nx := fun _ H' => Q .non H', rt := Q } (start N vs) H) : FnOk P w K mg base CX0 (k + 1) f fd ps sp := by
  obtain ⟨oc, od, kV, doc, pm, an, cdv, ct, osl, rfl, lk, hcd⟩ := F.ex
  refine fn_of lk hcd S len fun A outer s H vs Q E hr hsp => ?_
  obtain ⟨t, h, q⟩ := hbody cdv A outer s H vs Q E hr hsp
  exact ⟨t, h.nox, q⟩
theorem Fun.binds {x qual : Str} {st : Stmt} {f : Addr} {fd : FuncData} {ps : List Str} (F : Fun K x qual st f fd)
    (h : ∀ (kV doc pm : Value) (an : Option Addr) (cdv ct : Value) (us : List Value), us.length = ps.length → bindArgs (PySem.W.fnOf x qual (defArgs st) (defBody st) (defScope st) .none kV doc pm an cdv ct) ⟨us, []⟩ = pure (ps.zip us)) : Binds K fd ps [] := by
  obtain ⟨oc, od, kV, doc, pm, an, cdv, ct, osl, rfl, lk, hcd⟩ := F.ex
  exact .all (h kV doc pm an cdv ct)
theorem fun_mk {x qual : Str} {st : Stmt} {f : Addr} {oc : Value} {od an : Option Addr} {osl : Array (Option Value)} {kV doc pm cdv ct : Value} (l : K.lookup f = some ⟨oc, od, .func (PySem.W.fnOf x qual (defArgs st) (defBody st) (defScope st) .none kV doc pm an cdv ct), osl⟩)
    (c : PySem.W.codeIn K cdv qual = true) (k : PySem.W.keepIn K (.ref f) = true) : Fun K x qual st f (PySem.W.fnOf x qual (defArgs st) (defBody st) (defScope st) .none kV doc pm an cdv ct) := ⟨⟨oc, od, kV, doc, pm, an, cdv, ct, osl, rfl, l, c⟩, k⟩
end
theorem hu_of {A : Around} {k : Nat} (hr : Room k A) : A.units + 1 < cLine := Nat.lt_of_le_of_lt (Nat.add_le_add_left (by decide : 1 ≤ 64) _) hr.units
section
variable {X : Cx}
end
theorem iteF {A B : Prop} (h : B) : if false = true then A else B := by
  rw [if_neg Bool.false_ne_true]
  exact h
theorem iteT {A B : Prop} (h : A) : if true = true then A else B := by
  rw [if_pos rfl]
  exact h
theorem ite2 {c A B : Prop} [Decidable c] (h1 : c → A) (h2 : ¬ c → B) : if c then A else B := by
  by_cases h : c
  · rw [if_pos h]
    exact h1 h
  · rw [if_neg h]
    exact h2 h
def Same (H H' : Hp) : Prop := ∀ b o, H b = some o → H' b = some o
theorem Same.refl (H : Hp) : Same H H := fun _ _ h => h
theorem Same.trans {H H1 H2 : Hp} (a : Same H H1) (b : Same H1 H2) : Same H H2 := fun c o h => b c o (a c o h)
theorem Same.free {H H' : Hp} (e : Same H H') {l : Addr} (h : H' l = Option.none) : H l = Option.none := by
  cases q : H l with
  | none => rfl
  | some o =>
    rw [e l o q] at h
    cases h
theorem Same.seq {K : PySem.W.Frag} {H H' : Hp} {a : Addr} {xs : List V} (e : Same H H') (h : SqL K H a xs) : SqL K H' a xs := by
  rcases h with (h | ⟨o, h⟩) | h
  · exact .inl (.inl (e _ _ h))
  · exact .inl (.inr ⟨o, e _ _ h⟩)
  · exact .inr h
end L2
namespace L2
open PySem PySem.Spec PyProof.Rows
section
variable {X : Cx}
end
section
variable {κ : Type} [DecidableEq κ]
end
end L2
namespace L3
open PySem PySem.Spec PyProof.Rows L2
abbrev St := L2.St
theorem same_upd {B H : Hp} {l : Addr} {o : HO} (h : Same B H) (n : B l = none) : Same B (upd H l o) := fun b u e => by
  rw [upd_ne (ne_of_none e n)]; exact h b u e
theorem same_new {H : Hp} {l : Addr} {o : HO} (n : H l = none) : Same H (upd H l o) := same_upd (Same.refl H) n
def New (H : Hp) (o : HO) (Q : VK) : Prop := ∀ p H', H p = none → Same H H' → H' p = some o → (∀ b, b ≠ p → H' b = H b) → Q (.ref p) H'
theorem New.at {H : Hp} {o : HO} {Q : VK} (h : New H o Q) {p : Addr} (n : H p = none) : Q (.ref p) (upd H p o) := h p _ n (same_new n) upd_same fun b hb => upd_ne hb
def clOf (env : Env) : List (Str × NameKind) → List (Str × Addr) → List (Str × Addr)
  | [], cs => cs
  | (n, k) :: r, cs => clOf env r (if (k == NameKind.free) = true then (n, ((env.cells.lookup n).getD 0)) :: cs else cs)
theorem clOf_run {env : Env} : ∀ (l : List (Str × NameKind)) (cs : List (Str × Addr)), (∀ y ∈ l, y.2 = .free → ∃ c, env.cells.lookup y.1 = some c) →
    (forIn l cs fun (x : Str × NameKind) (r : List (Str × Addr)) => (match x with
      | (name, kind) => if (kind == NameKind.free) = true then do let a ← cellOf env name; pure (ForInStep.yield ((name, a) :: r)) else pure (ForInStep.yield r) : Sem (ForInStep (List (Str × Addr))))) = (pure (clOf env l cs) : Sem _)
  | [], cs, _ => by rw [List.forIn_nil]; rfl
  | (n, k) :: r, cs, h => by
    rw [List.forIn_cons]
    have hr := fun cs' => clOf_run r cs' fun y hy => h y (List.mem_cons_of_mem _ hy)
    by_cases hk : (k == NameKind.free) = true
    · obtain ⟨c, hc⟩ := h (n, k) List.mem_cons_self (by simpa using hk)
      have hc : env.cells.lookup n = some c := hc
      simp only [hk, if_true, cellOf, hc, pure_bind, clOf, Option.getD_some]
      exact hr _
    · have hk : (k == NameKind.free) = false := by simpa using hk
      simp only [hk, Bool.false_eq_true, if_false, pure_bind, clOf]
      exact hr _
theorem closure_ok {env : Env} {scope : Scope} (h : ∀ y ∈ scope.names, y.2 = .free → ∃ c, env.cells.lookup y.1 = some c) : closureFor scope env = pure (clOf env scope.names []) := by
  unfold closureFor
  have e := clOf_run scope.names [] h
  first
    | exact e
    | (simp only [bind_pure_comp, id_map'] ; exact e)
    | (rw [show (do let cs ← _; return cs) = _ from bind_pure _]; exact e)
    | (simp; simpa using e)
theorem clOf_sub {env : Env} : ∀ (l : List (Str × NameKind)) (cs : List (Str × Addr)), (∀ y ∈ l, y.2 = .free → ∃ c, env.cells.lookup y.1 = some c) → (∀ p ∈ cs, env.cells.lookup p.1 = some p.2) →
    ∀ p ∈ clOf env l cs, env.cells.lookup p.1 = some p.2
  | [], cs, _, hc => hc
  | (n, k) :: r, cs, h, hc => by
    refine clOf_sub r _ (fun y hy => h y (List.mem_cons_of_mem _ hy)) ?_
    by_cases hk : (k == NameKind.free) = true
    · obtain ⟨c, e⟩ := h (n, k) List.mem_cons_self (by simpa using hk)
      have e : env.cells.lookup n = some c := e
      rw [if_pos hk]
      intro p hp
      rcases List.mem_cons.mp hp with rfl | hp
      · show env.cells.lookup n = some ((env.cells.lookup n).getD 0)
        rw [e]; rfl
      · exact hc p hp
    · rw [if_neg hk]; exact hc
theorem clOf_keep {env : Env} : ∀ (l : List (Str × NameKind)) (cs : List (Str × Addr)) (p : Str × Addr), p ∈ cs → p ∈ clOf env l cs
  | [], cs, p, h => h
  | (n, k) :: r, cs, p, h => by
    refine clOf_keep r _ p ?_
    split
    · exact List.mem_cons_of_mem _ h
    · exact h
theorem clOf_has {env : Env} : ∀ (l : List (Str × NameKind)) (cs : List (Str × Addr)) (x : Str), (x, NameKind.free) ∈ l → ∃ c, (x, c) ∈ clOf env l cs
  | (n, k) :: r, cs, x, h => by
    rcases List.mem_cons.mp h with h | h
    · have e1 : x = n := congrArg Prod.fst h
      have e2 : NameKind.free = k := congrArg Prod.snd h
      subst e1 e2
      refine ⟨(env.cells.lookup x).getD 0, clOf_keep r _ (x, _) ?_⟩
      rw [if_pos (by simp)]
      exact List.mem_cons_self
    · exact clOf_has r _ x h
theorem lookup_of_mem {α : Type} : ∀ {l : List (Str × α)} {x : Str} {c : α}, (x, c) ∈ l → ∃ d, l.lookup x = some d
  | (n, v) :: r, x, c, h => by
    by_cases e : x == n
    · exact ⟨v, by simp [List.lookup_cons, e]⟩
    · rcases List.mem_cons.mp h with h | h
      · cases h; exact absurd (by simp) e
      · obtain ⟨d, hd⟩ := lookup_of_mem h
        exact ⟨d, by simp [List.lookup_cons, e, hd]⟩
def csOk (sc : Scope) (NX N' : List Str) (cs : List (Option Nat)) (scope : Scope) : Bool :=
  (scope.kind == .function) && (scope.names.all fun y => y.2 != .cell) && (scope.names.all fun y => y.2 != .local || scope.names.lookup y.1 == some .local) &&
  (scope.names.all fun y => y.2 != .free || (sc.names.lookup y.1 == some .cell || sc.names.lookup y.1 == some .free)) &&
  decide (cs.length = N'.length) &&
  ((List.range cs.length).all fun j => match cs[j]? with
    | some (some i) => (match N'[j]? with | some x => decide (NX[i]? = some x) && (scope.names.lookup x == some .free) | none => false)
    | _ => true)
structure CsOk (sc : Scope) (NX N' : List Str) (cs : List (Option Nat)) (scope : Scope) : Prop where
  kind : scope.kind = .function
  nocell : ∀ y ∈ scope.names, y.2 ≠ .cell
  names : ∀ y ∈ scope.names, y.2 = .local → scope.names.lookup y.1 = some .local
  free : ∀ y ∈ scope.names, y.2 = .free → sc.names.lookup y.1 = some .cell ∨ sc.names.lookup y.1 = some .free
  len : cs.length = N'.length
  capt : ∀ (j i : Nat) (x : Str), cs[j]? = some (some i) → N'[j]? = some x → NX[i]? = some x ∧ scope.names.lookup x = some .free
theorem CsOk.of {sc : Scope} {NX N' : List Str} {cs : List (Option Nat)} {scope : Scope} (h : csOk sc NX N' cs scope = true) : CsOk sc NX N' cs scope := by
  unfold csOk at h
  simp only [Bool.and_eq_true] at h
  obtain ⟨⟨⟨⟨⟨h1, h2⟩, h3⟩, h4⟩, h5⟩, h6⟩ := h
  refine ⟨by simpa using h1, fun y hy => ?_, fun y hy e => ?_, fun y hy e => ?_, of_decide_eq_true h5, fun j i x e1 e2 => ?_⟩
  · have := List.all_eq_true.mp h2 y hy; simpa using this
  · have := List.all_eq_true.mp h3 y hy; simpa [e] using this
  · have := List.all_eq_true.mp h4 y hy; simpa [e] using this
  · have hj : j < cs.length := (List.getElem?_eq_some_iff.mp e1).1
    have := List.all_eq_true.mp h6 j (List.mem_range.mpr hj)
    rw [e1, e2] at this
    simpa using this
def cxC (X : Cx) (N' : List Str) (scope : Scope) (fp : List Addr) (s3 : Shared) (H3 : Hp) : Cx where
  prog := X.prog
  w := X.w
  K := X.K
  mg := X.mg
  base := X.base
  A := X.A
  N := N'
  s₀ := s3
  H₀ := H3
  env := compEnvC scope (clOf X.env scope.names []) s3.heap.objs.size X.env
  outer := X.stack
  stack := X.stack
  ex := fp
  fn := fun _ => false
  calm := X.calm
  pn := []
  xe := fun _ _ => False
def cst (cs : List (Option Nat)) (σ : St) : St := cs.map fun o => match o with | some i => (σ[i]?).getD none | none => none
def PTs (X : Cx) (ifs : List Expr) (t : TT) : Prop :=
  ∀ (pins : List (Addr × Obj)) (s : Shared) (σ : St) (H : Hp) (Q : Bool → Hp → Prop), Inv X pins σ H s → t σ H Q →
    wpAny (model X.prog X.w) X.A (forIn ifs true fun c r => if r = true then do let ok ← isTrue c X.env (eval c X.env); pure (ForInStep.yield ok) else pure (ForInStep.yield r)) (TP X pins σ Q) X.xe s
def tT0 : TT := fun _ H Q => Q true H
theorem pts_nil {X : Cx} : PTs X [] tT0 := fun pins s σ H Q I h => wpAny_tests_nil ⟨H, I, h⟩
theorem pts_one {X : Cx} {c : Expr} {t : TT} (h : PT X c t) : PTs X [c] t := fun pins s σ H Q I q => wpAny_tests_one (h pins s σ H Q I q)
def CompW (J : It) (g : TG) (tt : TT) (te : TE) (acc : Addr) (σ0 : St) (H0 : Hp) (Q : Hp → Prop) : Prop :=
  ∃ W : Nat → Nat → St → Hp → Prop, (∃ m, W 0 m σ0 H0) ∧ ∀ i m σ H, W i m σ H →
    (J.stop i H ∧ Q H) ∨ (J.go i H ∧ ∀ x H1, J.yld i H x H1 → g x σ H1 fun σ2 H2 => tt σ2 H2 fun b H3 =>
      if b = true then te σ2 H3 fun y H4 => ∃ ys, H4 acc = some (.lst ys) ∧ ys.length < sizeLine ∧ ∃ m', m' < m ∧ W (i + 1) m' σ2 (upd H4 acc (.lst (ys ++ [y])))
      else ∃ m', m' < m ∧ W (i + 1) m' σ2 H3)
def tComp (cs : List (Option Nat)) (wi : TI) (g : TG) (tt : TT) (te : TE) : TE := fun σ H Q => wi σ H fun J H1 => ∀ acc, H1 acc = none → CompW J g tt te acc (cst cs σ) (upd H1 acc (.lst [])) (Q (.ref acc))
section
variable {prog : Program} {w : World} {A : Around} {R : Result → Shared → Prop} {s : Shared}
theorem compLoop_any {elt target iter : Expr} {ifs : List Expr} {scope : Scope} {pos : Pos} {it acc : Value} {env : Env} (I : Nat → Shared → Prop)
    (turn : ∀ n s, I n s → wpAny (model prog w) A (pyNext it) (fun r s₁ => match r with
      | none => R (.ok .next) s₁
      | some v => wpAny (model prog w) A (letOwnedTupleGo target it v) (fun _ s₁ => wpAny (model prog w) A (assign target env v) (fun _ s₂ =>
          wpAny (model prog w) A (forIn ifs true fun c r => if r = true then do let ok ← isTrue c env (eval c env); pure (ForInStep.yield ok) else pure (ForInStep.yield r)) (fun ok s₃ =>
            if ok = true then wpAny (model prog w) A (eval elt env) (fun x s₄ =>
              wpAny (model prog w) A (call (.builtin "list.append") [acc, x]) (fun _ s₅ => ∃ m, m < n ∧ I m s₅) (notedBy (model prog w) A env fun e s' => R (.error e) s') s₄) (notedBy (model prog w) A env fun e s' => R (.error e) s') s₃
            else ∃ m, m < n ∧ I m s₃) (notedBy (model prog w) A env fun e s' => R (.error e) s') s₂) (notedBy (model prog w) A env fun e s' => R (.error e) s') s₁) (notedBy (model prog w) A env fun e s' => R (.error e) s') s₁) (notedBy (model prog w) A env fun e s' => R (.error e) s') s)
    (n : Nat) (h : I n s) :
    codeAny (model prog w) A (.compLoop (.ListComp elt [⟨target, iter, ifs, 0⟩] scope pos) 0 it acc env) R s := by
  refine codeAny_loop rfl I (fun n s hI => ?_) n h
  show wpAny _ A ((compTurn (.ListComp elt [⟨target, iter, ifs, 0⟩] scope pos) 0 it acc env).onRaise (fun x => do noteFrame x env; theTreesLotGoes x)) _ _ s
  refine wpAny_noted ?_
  rw [compTurn_list]
  refine wpAny_bind (wpAny_standAt (wpAny_bind (wpAny_mono (turn n s hI) (fun r s₁ h₁ => ?_) fun _ _ h' => h')))
  cases r with
  | none => exact wpAny_pure h₁
  | some v =>
    refine wpAny_bind (wpAny_mono h₁ (fun _ s₁ h₁ => ?_) fun _ _ h' => h')
    refine wpAny_bind (wpAny_mono h₁ (fun _ s₂ h₂ => wpAny_bind (wpAny_mono h₂ (fun ok s₃ h₃ => ?_) fun _ _ h' => h')) fun _ _ h' => h')
    cases ok with
    | false => exact wpAny_pure ⟨rfl, h₃⟩
    | true =>
      exact wpAny_bind (wpAny_bind (wpAny_mono h₃ (fun x s₄ h₄ => wpAny_bind (wpAny_mono h₄ (fun _ s₅ h₅ => wpAny_pure (wpAny_pure ⟨rfl, h₅⟩)) fun _ _ h' => h')) fun _ _ h' => h'))
end
section
variable {X : Cx} {pins : List (Addr × Obj)} {σ : St} {H2 : Hp} {s2 : Shared}
theorem relabel_free {scope : Scope} {env : Env} : ∀ {l : List (Str × NameKind)} {x : Str} {k : NameKind},
    (l.map fun (n, k) => if (k == NameKind.free && env.scope.kind == .function && env.kindOf n == some .cell) then (n, NameKind.cell) else (n, k)).lookup x = some k →
    l.lookup x = some k ∨ (l.lookup x = some .free ∧ k = .cell)
  | [], x, k, h => by simp at h
  | (n, k') :: r, x, k, h => by
    have ih := @relabel_free scope env r x k
    rw [List.map_cons] at h
    by_cases hx : (x == n) = true
    · by_cases hc : (k' == NameKind.free && env.scope.kind == .function && env.kindOf n == some .cell) = true
      · simp only [hc, if_true, List.lookup_cons, hx] at h
        have e : k' = .free := by simp only [Bool.and_eq_true] at hc; simpa using hc.1.1
        simp only [List.lookup_cons, hx]
        exact .inr ⟨by rw [e], (Option.some.inj h).symm⟩
      · simp only [hc, if_false, List.lookup_cons, hx, Bool.false_eq_true] at h
        simp only [List.lookup_cons, hx]
        exact .inl h
    · have hx : (x == n) = false := by simpa using hx
      by_cases hc : (k' == NameKind.free && env.scope.kind == .function && env.kindOf n == some .cell) = true
      · simp only [hc, if_true, List.lookup_cons, hx] at h
        simp only [List.lookup_cons, hx]
        exact ih h
      · simp only [hc, if_false, List.lookup_cons, hx, Bool.false_eq_true] at h
        simp only [List.lookup_cons, hx]
        exact ih h
theorem comp_core {elt target iter : Expr} {ifs : List Expr} {scope : Scope} {pos : Pos} {E : Value → Shared → Prop} {N' : List Str} {cs : List (Option Nat)} {it : Addr} {fp : List Addr} {tn : Nat → Heap → Prop} {J : It} {g : TG} {tt : TT} {te : TE} {Q : VK}
    {RR : Value → Addr → Result → Shared → Prop} (hc : X.calm = true) (F : CsOk X.env.scope X.N N' cs scope)
    (hg : ∀ s3 H3, PG (cxC X N' scope fp s3 H3) target g) (ht : ∀ s3 H3, PTs (cxC X N' scope fp s3 H3) ifs tt) (he : ∀ s3 H3, PE (cxC X N' scope fp s3 H3) elt te)
    (I2 : Inv X pins σ H2 s2) (T : Turn X.prog X.w X.K target J fp it tn) (st2 : tn 0 s2.heap) (f2 : ∀ b ∈ fp, FpOk X pins H2 b)
    (hW : ∀ acc, H2 acc = none → CompW J g tt te acc (cst cs σ) (upd H2 acc (.lst [])) (Q (.ref acc)))
    (hRR : ∀ D C s' H' m, Inv X pins σ H' s' → s'.heap.Ns C m → H' C = none → C ≠ X.env.locals → X.s₀.heap.objs.size ≤ C → (∀ x c, X.env.cells.lookup x = some c → c ≠ C) → (∀ p ∈ X.pn ++ pins, p.1 ≠ C) → Q (.ref D) H' → RR (.ref D) C (.ok .next) s') :
    wpAny (model X.prog X.w) X.A (newList []) (fun acc s₃ => wpAny (model X.prog X.w) X.A (newFunctionEnv scope X.env.globals (clOf X.env scope.names []) [] X.env.qual none .none (some X.env)) (fun cenv s₄ =>
      codeAny (model X.prog X.w) X.A (.compStart (.ListComp elt [⟨target, iter, ifs, 0⟩] scope pos) 0 (.ref it) acc { cenv with scope := relabel scope X.env }) (RR acc cenv.locals) s₄) E s₃) E s2 := by
  refine wpAny_newObj_type (wpAny_newFunctionEnv F.nocell (by intro y hy; simp at hy) (fun h₁ hns₁ hsb₁ => ?_) F.kind)
  dsimp only at hns₁ hsb₁ ⊢
  have hfree : ∀ y ∈ scope.names, y.2 = .free → ∃ c, X.env.cells.lookup y.1 = some c := fun y hy e => I2.ok.has y.1 (F.free y hy e)
  have sub : ∀ x c, (clOf X.env scope.names []).lookup x = some c → X.env.cells.lookup x = some c := fun x c e => clOf_sub scope.names [] hfree (by simp) (x, c) (PySem.mem_of_lookup e)
  obtain ⟨W, ⟨m0, w0⟩, turn⟩ := hW s2.heap.objs.size I2.fresh
  have I3 := I2.lnew (t' := s2.toks) (its := []) (ys := []) .nil (Nat.zero_le _)
  generalize hs3 : ({ s2 with heap := s2.heap.push { cls := .type "list", data := .seq ([] : List Value).toArray }, toks := s2.toks } : Shared) = s3 at I3
  generalize hH3 : upd H2 s2.heap.objs.size (HO.lst []) = H3 at I3 w0
  have e3 : s2.heap.push { cls := .type "list", dict := none, data := .seq ([] : List Value).toArray } = s3.heap := by rw [← hs3]
  rw [e3] at hns₁ hsb₁ ⊢
  have old : ∀ b o, s3.heap.get? b = some o → h₁.get? b = some o := fun b o e => hsb₁.extBut b o (Nat.ne_of_lt (Heap.lt_size e)) (Heap.get?_push_of_some _ e)
  have sz3 : s3.heap.objs.size = s2.heap.objs.size + 1 := by rw [← hs3]; exact Heap.size_push ..
  have fpn3 : ∀ b ∈ fp, H3 b = none := fun b hb => by
    obtain ⟨o, ho, _⟩ := T.obj 0 _ st2 b hb
    rw [← hH3, upd_ne (Nat.ne_of_lt (Heap.lt_size ho))]
    exact (f2 b hb).1
  have fplt : ∀ b ∈ fp, b < s3.heap.objs.size := fun b hb => by
    obtain ⟨o, ho, _⟩ := T.obj 0 _ st2 b hb
    exact Nat.lt_of_lt_of_le (Heap.lt_size ho) (by rw [sz3]; exact Nat.le_succ _)
  -- the block's own facts
  have okC : (cxC X N' scope fp s3 H3).Ok := by
    refine ⟨I3.ok.mod, F.kind, I3.ok.glob, I3.ok.blt, Nat.le_refl _, fun x y c h1 h2 => I3.ok.inj x y c (sub x c h1) (sub y c h2), fun x hx => ?_, fun x c h => (Bool.false_ne_true h).elim, I3.ok.hd, I3.ok.frames, .inl rfl, fun b hb => ⟨Nat.ne_of_lt (fplt b hb), fun x c e => (f2 b hb).2.2.2.2.1 x c (sub x c e)⟩,
      I3.bs, Nat.le_trans I3.ok.bsz I3.sz, fun b o e hb => ?_, fun b hb z => ?_, I3.stack, I3.stkFree⟩
    · have hx : scope.names.lookup x = some .free := by
        rcases hx with hx | hx
        · rcases relabel_free (scope := scope) (env := X.env) hx with q | ⟨q, _⟩
          · exact absurd rfl (F.nocell _ (PySem.mem_of_lookup q))
          · exact q
        · rcases relabel_free (scope := scope) (env := X.env) hx with q | ⟨q, z⟩
          · exact q
          · cases z
      obtain ⟨c, hm⟩ := clOf_has (env := X.env) scope.names [] x (PySem.mem_of_lookup hx)
      exact lookup_of_mem hm
    · rcases (f2 b hb).2.2.2.1 with z | z
      · exact I3.ok.noex b o e z
      · have h1 := Heap.lt_size e
        have h2 := I3.ok.bsz
        exact absurd (Nat.lt_of_lt_of_le h1 h2) (Nat.not_lt.mpr z)
    · rcases List.mem_cons.mp (I3.stkSub b z) with q | q
      · exact (f2 b hb).2.1 q
      · exact (f2 b hb).2.2.1 q
  have σlen : (cst cs σ).length = N'.length := by unfold cst; rw [List.length_map]; exact F.len
  have IC : Inv (cxC X N' scope fp s3 H3) [] (cst cs σ) H3 { s3 with heap := h₁, toks := s3.toks + ([] : List (Str × Value)).length } := by
    refine ⟨okC, rfl, I3.bare, Un.kept old, ⟨_, hns₁, fun j x v e1 e2 e3 => ?_⟩, fun x c e => ?_, I3.fresh, fun x c e => I3.freeC x c (sub x c e), fun p hp => absurd (show p ∈ ([] : List (Addr × Obj)) from hp) (by simp), I3.hok.kept old, σlen⟩
    · -- a name of the block that has a value is an outer one
      obtain ⟨i, hi, hv⟩ : ∃ i, cs[j]? = some (some i) ∧ σ[i]? = some (some v) := by
        unfold cst at e2
        rw [List.getElem?_map] at e2
        cases q : cs[j]? with
        | none => rw [q] at e2; cases e2
        | some o =>
          rw [q] at e2
          cases o with
          | none => cases e2
          | some i =>
            refine ⟨i, rfl, ?_⟩
            have e2 : (σ[i]?).getD none = some v := Option.some.inj e2
            cases q2 : σ[i]? with
            | none => rw [q2] at e2; cases e2
            | some z => rw [q2] at e2; exact congrArg some e2
      obtain ⟨hN, hf⟩ := F.capt j i x hi e1
      obtain ⟨m, hn, hl⟩ := I3.loc
      have hk := F.free _ (PySem.mem_of_lookup hf) rfl
      obtain ⟨u, r, l⟩ := hl i x v hN hv (.inr hk)
      refine ⟨u, r, .inr ⟨?_, ?_⟩⟩
      · rcases e3 with e3 | e3 | e3
        · rcases relabel_free (scope := scope) (env := X.env) e3 with q | ⟨_, z⟩
          · rw [hf] at q; cases q
          · cases z
        · exact .inl e3
        · exact .inr e3
      · rcases l with ⟨z, _⟩ | ⟨_, c, hc', hcell⟩
        · have z : X.env.scope.names.lookup x = some .local := z
          rcases hk with k | k <;> (rw [k] at z; cases z)
        · obtain ⟨c2, hm⟩ := clOf_has (env := X.env) scope.names [] x (PySem.mem_of_lookup hf)
          obtain ⟨c3, h3⟩ := lookup_of_mem hm
          have e4 := sub x c3 h3
          rw [hc'] at e4
          cases e4
          obtain ⟨o, ho, hd⟩ := hcell
          exact ⟨c, h3, o, old _ _ ho, hd⟩
    · obtain ⟨v, o, ho, hd⟩ := I3.cell x c (sub x c e)
      exact ⟨v, o, old _ _ ho, hd⟩
  have st4 : tn 0 h₁ := T.keep 0 s2.heap h₁ st2 fun b hb o e => old b o (by rw [← e3]; exact Heap.get?_push_of_some _ e)
  -- what stays true of the iterator's objects through the loop
  have stat : ∀ {H' : Hp}, (∀ b ∈ fp, H' b = none) → ∀ b ∈ fp, FpOk (cxC X N' scope fp s3 H3) [] H' b := fun hn b hb =>
    ⟨hn b hb, Nat.ne_of_lt (fplt b hb), okC.exfs b hb, .inl hb, fun x c e => (f2 b hb).2.2.2.2.1 x c (sub x c e), fun p hp => absurd (show p ∈ ([] : List (Addr × Obj)) from hp) (by simp)⟩
  have noE : ∀ {α : Type} {t : Sem α} {Q' : α → Shared → Prop} {E' : Value → Shared → Prop} {s' : Shared}, wpAny (model X.prog X.w) X.A t Q' (fun _ _ => False) s' → wpAny (model X.prog X.w) X.A t Q' E' s' := fun h => wpAny_mono h (fun _ _ q => q) fun _ _ f => f.elim
  -- behind the loop
  have fin : ∀ {σ' : St} {H' : Hp} {s' : Shared}, Inv (cxC X N' scope fp s3 H3) [] σ' H' s' → Q (.ref s2.heap.objs.size) H' → RR (.ref s2.heap.objs.size) s3.heap.objs.size (.ok .next) s' := fun {σ' H' s'} I' q => by
    obtain ⟨m, hn, _⟩ := I'.loc
    refine hRR _ _ s' H' m (I3.call' I'.os I'.base I'.hok I'.bare fun b hb => ?_) hn I'.free (Nat.ne_of_gt I3.lt) I3.sz (fun x c e z => ?_) (fun p hp z => ?_) q
    · obtain ⟨_, g1, _, g3, g4, g5⟩ := f2 b hb
      exact ⟨g3, g1, g4, g5⟩
    · obtain ⟨v, o, ho, _⟩ := I3.cell x c e
      exact absurd (Heap.lt_size ho) (by rw [z]; exact Nat.lt_irrefl _)
    · exact absurd (Heap.lt_size (I3.pin p hp).1) (by rw [z]; exact Nat.lt_irrefl _)
  have loop : codeAny (model X.prog X.w) X.A (.compLoop (.ListComp elt [⟨target, iter, ifs, 0⟩] scope pos) 0 (.ref it) (.ref s2.heap.objs.size) (cxC X N' scope fp s3 H3).env)
      (RR (.ref s2.heap.objs.size) s3.heap.objs.size) { s3 with heap := h₁, toks := s3.toks + ([] : List (Str × Value)).length } := by
    refine compLoop_any (fun n s' => ∃ i σ' H', Inv (cxC X N' scope fp s3 H3) [] σ' H' s' ∧ tn i s'.heap ∧ (∀ b ∈ fp, H' b = none) ∧ W i n σ' H') ?_ m0 ⟨0, _, H3, IC, st4, fpn3, w0⟩
    rintro n s4 ⟨i, σ4, H4, I4, st4, fr4, w4⟩
    rcases turn i n σ4 H4 w4 with ⟨stop, qn⟩ | ⟨go, step⟩
    · refine thn (T.done (cxC X N' scope fp s3 H3) rfl rfl rfl hc i [] s4 σ4 H4 _ I4 (stat fr4) st4 stop) fun r s5 hh => ?_
      obtain ⟨hr, I5⟩ := hh
      subst hr
      exact fin I5 qn
    · refine thn (T.item (cxC X N' scope fp s3 H3) rfl rfl rfl hc i [] s4 σ4 H4 _ I4 (stat fr4) st4 go) fun r s5 hh => ?_
      obtain ⟨u, hr, h5⟩ := hh
      subst hr
      refine thn h5 fun _ s6 hh => ?_
      obtain ⟨x, H6, I6, r6, y6, st6, fr6⟩ := hh
      have I6' := I6.pinned (stat fr6) (T.obj _ _ st6)
      have keepT : ∀ {σ7 : St} {H7 : Hp} {s7 : Shared}, Inv (cxC X N' scope fp s3 H3) ([] ++ pinsAt fp s6.heap) σ7 H7 s7 → tn (i + 1) s7.heap ∧ ∀ b ∈ fp, H7 b = none := fun {σ7 H7 s7} I7 =>
        ⟨T.keep _ _ _ st6 fun b hb o e => (I7.pin (b, o) (List.mem_append_right _ (List.mem_append_right _ (mem_pinsAt hb e)))).1, fun b hb => by
          obtain ⟨o, e, d⟩ := T.obj _ _ st6 b hb
          exact (I7.pin (b, o) (List.mem_append_right _ (List.mem_append_right _ (mem_pinsAt hb e)))).2.1⟩
      refine noE (thn (hg s3 H3 _ s6 σ4 H6 x u _ I6' r6 (step x H6 y6)) fun _ s7 hh => ?_)
      obtain ⟨σ7, H7, I7, q7⟩ := hh
      refine noE (thn (ht s3 H3 _ s7 σ7 H7 _ I7 q7) fun b s8 hh => ?_)
      obtain ⟨H8, I8, q8⟩ := hh
      cases b with
      | false =>
        rw [if_neg Bool.false_ne_true] at q8 ⊢
        obtain ⟨m', hm, w8⟩ := q8
        obtain ⟨t8, n8⟩ := keepT I8
        exact ⟨m', hm, i + 1, σ7, H8, I8.unpinned, t8, n8, w8⟩
      | true =>
        rw [if_pos rfl] at q8 ⊢
        refine noE (thn (he s3 H3 _ s8 σ7 H8 _ I8 q8) fun v s9 hh => ?_)
        obtain ⟨y, H9, I9, r9, ys, hacc, hz, m', hm, w9⟩ := hh
        refine noE (thn (mt_append (X := cxC X N' scope fp s3 H3) _ s9 σ7 H9 (.ref s2.heap.objs.size) [y] (.ref s2.heap.objs.size) [v] (fun _ H' => W (i + 1) m' σ7 H') I9 rfl (.cons r9 .nil) ⟨_, ys, y, rfl, rfl, hacc, hz, w9⟩) fun _ s10 hh => ?_)
        obtain ⟨_, H10, I10, _, w10⟩ := hh
        obtain ⟨t10, n10⟩ := keepT I10
        exact ⟨m', hm, i + 1, σ7, H10, I10.unpinned, t10, n10, w10⟩
  have e5 : ({ s2 with heap := h₁, toks := s2.toks + ([] : List (Str × Value)).length } : Shared) = { s3 with heap := h₁, toks := s3.toks + ([] : List (Str × Value)).length } := by rw [← hs3]
  rw [e5]
  exact codeAny_compStart_list loop (T.self _ 0 _ _ _ st4 loop)
end
section
variable {X : Cx}
theorem pe_comp {elt target iter : Expr} {ifs : List Expr} {scope : Scope} {pos : Pos} {wi : TI} {g : TG} {tt : TT} {te : TE} {sc : Scope} {NX : List Str} (N' : List Str) (cs : List (Option Nat)) (hc : X.calm = true)
    (hi : PI X target iter wi) (hg : ∀ fp s3 H3, PG (cxC X N' scope fp s3 H3) target g) (ht : ∀ fp s3 H3, PTs (cxC X N' scope fp s3 H3) ifs tt) (he : ∀ fp s3 H3, PE (cxC X N' scope fp s3 H3) elt te)
    (hsc : X.env.scope = sc) (hN : X.N = NX) (hcs : csOk sc NX N' cs scope = true) (hs : ∀ x, foldedSetIterable iter X.env x = pure x := by intro _; rfl) :
    PE X (.ListComp elt [⟨target, iter, ifs, 0⟩] scope pos) (tComp cs wi g tt te) := by
  intro pins s σ H Q I h
  subst hsc hN
  have F := CsOk.of hcs
  rw [eval_ListComp]
  refine wpAny_comprehension_free (use := none) rfl hs (closure_ok fun y hy e => I.ok.has y.1 (F.free y hy e)) F.kind F.names ?_
  refine thn (hi pins s σ H _ I h) fun v s1 h1 => thn h1 fun itv s2 h2 => ?_
  obtain ⟨it, fp, tn, J, H2, rfl, I2, T, st2, f2, hW⟩ := h2
  refine comp_core (RR := fun acc C => compPost (model X.prog X.w) X.A X.xe none (EP X pins σ Q) acc C) (Q := Q) hc F (hg fp) (ht fp) (he fp) I2 T st2 f2 hW ?_
  intro D C s' H' m I' hn hC hL hsz hcell hpin q
  refine ⟨m, hn, fun h' hs' => ⟨.ref D, H', ?_, rfl, q⟩⟩
  exact I'.turned (t' := s'.toks) (it := C) (fun b o hb e => (hs'.2 b hb).trans e) hC hL (.inr hsz) hcell hpin
theorem ps_setC {i : Nat} {y : Str} {py spos : Pos} {elt target iter : Expr} {ifs : List Expr} {scope : Scope} {pos : Pos} {wi : TI} {g : TG} {tt : TT} {te : TE} {sc : Scope} {NX : List Str} (N' : List Str) (cs : List (Option Nat)) (hc : X.calm = true)
    (hND : X.N.Nodup) (hiN : X.N[i]? = some y) (hy : X.env.scope.names.lookup y = some .local)
    (hi : PI X target iter wi) (hg : ∀ fp s3 H3, PG (cxC X N' scope fp s3 H3) target g) (ht : ∀ fp s3 H3, PTs (cxC X N' scope fp s3 H3) ifs tt) (he : ∀ fp s3 H3, PE (cxC X N' scope fp s3 H3) elt te)
    (hsc : X.env.scope = sc) (hN : X.N = NX) (hcs : csOk sc NX N' cs scope = true)
    (hsw : swapsWith (.ListComp elt [⟨target, iter, ifs, 0⟩] scope pos) (some (.Name y py)) spos.line X.env = pure true)
    (hs : ∀ x, foldedSetIterable iter X.env x = pure x := by intro _; rfl) :
    PS X (.Assign [.Name y py] (.ListComp elt [⟨target, iter, ifs, 0⟩] scope pos) spos) (tAsg (tComp cs wi g tt te) (gName i)) := by
  intro pins s σ H D I h
  subst hsc hN
  have F := CsOk.of hcs
  rw [exec_Assign_Name_used _ _ _ _ hsw]
  refine wpAny_bind (wpAny_standAt (wpAny_bind ?_))
  show wpAny _ X.A (do let _ ← comprehension (.ListComp elt [⟨target, iter, ifs, 0⟩] scope pos) scope X.env _ (newList []) false (eval iter X.env) (some (assign (.Name y py) X.env))) _ _ s
  refine wpAny_bind (wpAny_mono (wpAny_comprehension_free (use := some (assign (.Name y py) X.env)) (Q := fun _ s' => SP X pins D .next s') rfl hs (closure_ok fun y hy e => I.ok.has y.1 (F.free y hy e)) F.kind F.names ?_) (fun _ s' hq => wpAny_pure (wpAny_pure hq)) fun _ _ e => e)
  refine thn (hi pins s σ H _ I h) fun v s1 h1 => thn h1 fun itv s2 h2 => ?_
  obtain ⟨it, fp, tn, J, H2, rfl, I2, T, st2, f2, hW⟩ := h2
  refine comp_core (RR := fun acc C => compPost (model X.prog X.w) X.A X.xe (some (assign (.Name y py) X.env)) (fun _ s' => SP X pins D .next s') acc C) (Q := fun x H' => gName i x σ H' D.nx) hc F (hg fp) (ht fp) (he fp) I2 T st2 f2 hW ?_
  intro A C s' H' m I' hn hC hL hsz hcell hpin q
  show wpAny _ X.A (assign (.Name y py) X.env (.ref A)) _ _ s'
  refine wpAny_assign_Name (store_ok2 I' hND hiN (.inl hy) (v := .ref A) rfl (fun s'' I'' ⟨a, hsa, ha⟩ => ?_) (.inr hy))
  have hCa : C ≠ a := by
    rcases ha with rfl | ha
    · exact hL
    · exact fun z => hcell _ _ ha z.symm
  refine ⟨m, hn.sameBut hsa hCa, fun h' hs' => ⟨_, H', ?_, q⟩⟩
  exact I''.turned (t' := s''.toks) (it := C) (fun b o hb e => (hs'.2 b hb).trans e) hC hL (.inr hsz) hcell hpin
end
end L3
namespace L3
open PySem PySem.Spec PyProof.Rows L2
section
variable {X : Cx}
def tTupN (t : TA) : TE := fun σ H Q => t σ H fun xs H1 => xs.length ≤ sizeLine ∧ New H1 (.tup xs) Q
def tLstN (t : TA) : TE := fun σ H Q => t σ H fun xs H1 => xs.length ≤ sizeLine ∧ New H1 (.lst xs) Q
theorem pe_tupN {es : List Expr} {t : TA} {x1} {pos : Pos} (h : PA X es t) : PE X (.Tuple es x1 pos) (tTupN t) := by
  intro pins s σ H Q I hq
  refine wpAny_Tuple_spliced (thn (h pos pins s σ H _ I hq) fun us s1 ⟨xs, H1, I1, r, z, q⟩ => ⟨by rw [← r.length]; exact z, ?_⟩)
  refine ⟨.ref s1.heap.objs.size, upd H1 s1.heap.objs.size (.tup xs), I1.laid (t' := s1.toks) (fun b u e => Heap.get?_push_of_some _ e) (Nat.le_refl _) ?_, rfl, q.at I1.fresh⟩
  exact ⟨z, us, r, ⟨_, Heap.get?_push_size _ rfl, rfl, _, rfl⟩⟩
theorem pe_lstN {es : List Expr} {t : TA} {pos : Pos} (h : PA X es t) : PE X (.List es pos) (tLstN t) := by
  intro pins s σ H Q I hq
  refine wpAny_List_spliced (thn (h pos pins s σ H _ I hq) fun us s1 ⟨xs, H1, I1, r, z, q⟩ => ⟨by rw [← r.length]; exact z, ?_⟩)
  refine ⟨.ref s1.heap.objs.size, upd H1 s1.heap.objs.size (.lst xs), I1.laid (t' := s1.toks) (fun b u e => Heap.get?_push_of_some _ e) (Nat.le_refl _) ?_, rfl, q.at I1.fresh⟩
  exact ⟨z, us, 0, r, Heap.get?_push_size _ rfl⟩
def rListN (K : PySem.W.Frag) : List V → Hp → VK → Prop := fun xs H Q => ∃ p ys, xs = [.ref p] ∧ (SqL K H p ys ∨ SqT K H p ys) ∧ New H (.lst ys) Q
theorem call_listN : CallR X (.type "list") (rListN X.K) := by
  intro pins s σ H xs us Q I r h
  obtain ⟨p, ys, e, hq, q⟩ := h
  exact call_list_of pins s σ H xs us Q I r ⟨p, ys, e, hq, fun l n => q.at n⟩
def rTupleN (K : PySem.W.Frag) : List V → Hp → VK → Prop := fun xs H Q => ∃ p ys, xs = [.ref p] ∧ ((SqL K H p ys ∧ New H (.tup ys) Q) ∨ (SqT K H p ys ∧ Q (.ref p) H))
theorem call_tupleN : CallR X (.type "tuple") (rTupleN X.K) := by
  intro pins s σ H xs us Q I r h
  obtain ⟨p, ys, e, hq⟩ := h
  refine call_tuple_of pins s σ H xs us Q I r ⟨p, ys, e, ?_⟩
  rcases hq with ⟨h1, h2⟩ | h
  · exact .inl ⟨h1, fun l n => h2.at n⟩
  · exact .inr h
def rSlN (K : PySem.W.Frag) : V → Option Int → Option Int → Hp → VK → Prop := fun x lo hi H Q => ∃ a xs, x = .ref a ∧ SqL K H a xs ∧ New H (.lst (cutV xs lo hi)) Q
theorem sl_listN : SlR X (rSlN X.K) := by
  intro pins s σ H x v vl vu lo hi sl Q I rx hs pl pu h
  obtain ⟨a, xs, e, hx, q⟩ := h
  exact sl_list pins s σ H x v vl vu lo hi sl Q I rx hs pl pu ⟨a, xs, e, hx, fun p n => q.at n⟩
def tDictN : TE := fun _ H Q => New H (.dK []) Q
theorem pe_dictN {pos : Pos} : PE X (.Dict [] [] pos) tDictN := fun pins s σ H Q I h => pe_dnewK pins s σ H Q I fun p n => h.at n
theorem call_isi : CallR X (.builtin "isinstance") (fun xs H Q => ∃ x T t b, xs = [x, .ty T] ∧ TyOf X.K H x t ∧ PySem.W.kitOne X.K t (.type T) = some b ∧ Q (.bl b) H) := by
  intro pins s σ H xs us Q I rv h
  obtain ⟨x, T, t, b, rfl, ty, e, q⟩ := h
  obtain ⟨u, c, rfl, rx, rc⟩ := vals2 rv
  cases (show c = Value.type T from rc)
  exact isinst_ok I rx ty e fun tk => ⟨.bl b, H, I.tok tk, rfl, q⟩
end
end L3
namespace L3
open PySem PySem.Spec PyProof.Rows L2
inductive D where
  | non | bl (b : Bool) | int (i : Int) | str (x : Str) | tup (xs : List D) | lst (xs : List D) | emp
mutual
def D.dep : D → Nat
  | .tup xs => deps xs + 1
  | .lst xs => deps xs + 1
  | _ => 0
def deps : List D → Nat
  | [] => 0
  | x :: r => max x.dep (deps r)
end
mutual
/-- what == tells -/
def D.eqv : D → D → Bool
  | .non, .non => true
  | .bl a, .bl b => a == b
  | .bl a, .int j => (if a then 1 else 0) == j
  | .int i, .bl b => i == (if b then 1 else 0)
  | .int i, .int j => i == j
  | .str x, .str y => x == y
  | .tup xs, .tup ys => eqvs xs ys
  | .lst xs, .lst ys => eqvs xs ys
  | .emp, .emp => true
  | _, _ => false
def eqvs : List D → List D → Bool
  | [], [] => true
  | x :: r, y :: q => x.eqv y && eqvs r q
  | _, _ => false
end
mutual
theorem D.eqv_refl : ∀ d : D, d.eqv d = true
  | .non => rfl
  | .bl b => by simp [D.eqv]
  | .int i => by simp [D.eqv]
  | .str x => by simp [D.eqv]
  | .tup xs => by rw [D.eqv]; exact eqvs_refl xs
  | .lst xs => by rw [D.eqv]; exact eqvs_refl xs
  | .emp => rfl
theorem eqvs_refl : ∀ xs : List D, eqvs xs xs = true
  | [] => rfl
  | x :: r => by rw [eqvs, D.eqv_refl x, eqvs_refl r]; rfl
end
mutual
/-- no bool and no dict in it -/
def D.pure : D → Bool
  | .bl _ => false
  | .emp => false
  | .tup xs => pures xs
  | .lst xs => pures xs
  | _ => true
def pures : List D → Bool
  | [] => true
  | x :: r => x.pure && pures r
end
mutual
theorem D.eqv_iff : ∀ d e : D, d.pure = true → e.pure = true → d.eqv e = true → d = e
  | .non, e, _, pe, h => by cases e <;> simp_all [D.eqv]
  | .bl b, e, pd, _, _ => by simp [D.pure] at pd
  | .int i, e, _, pe, h => by cases e <;> simp_all [D.eqv, D.pure]
  | .str x, e, _, pe, h => by cases e <;> simp_all [D.eqv]
  | .tup xs, e, pd, pe, h => by
    cases e with
    | tup ys => rw [D.eqv] at h; rw [D.pure] at pd pe; rw [eqvs_iff xs ys pd pe h]
    | _ => simp [D.eqv] at h
  | .lst xs, e, pd, pe, h => by
    cases e with
    | lst ys => rw [D.eqv] at h; rw [D.pure] at pd pe; rw [eqvs_iff xs ys pd pe h]
    | _ => simp [D.eqv] at h
  | .emp, e, _, pe, h => by cases e <;> simp_all [D.eqv]
theorem eqvs_iff : ∀ xs ys : List D, pures xs = true → pures ys = true → eqvs xs ys = true → xs = ys
  | [], ys, _, _, h => by cases ys <;> simp_all [eqvs]
  | x :: r, [], _, _, h => by simp [eqvs] at h
  | x :: r, y :: q, px, py, h => by
    rw [pures, Bool.and_eq_true] at px py
    rw [eqvs, Bool.and_eq_true] at h
    rw [D.eqv_iff x y px.1 py.1 h.1, eqvs_iff r q px.2 py.2 h.2]
end
theorem eqv_ne {d e : D} (pd : d.pure = true) (pe : e.pure = true) (h : d ≠ e) : d.eqv e = false := by
  cases q : d.eqv e with
  | false => rfl
  | true => exact absurd (D.eqv_iff d e pd pe q) h
mutual
inductive Rep (H : Hp) : V → D → Prop
  | non : Rep H .non .non
  | bl (b : Bool) : Rep H (.bl b) (.bl b)
  | int (i : Int) : Rep H (.int i) (.int i)
  | str (x : Str) : Rep H (.str x) (.str x)
  | tup {a : Addr} {vs : List V} {xs : List D} : H a = some (.tup vs) → Reps H vs xs → Rep H (.ref a) (.tup xs)
  | lst {a : Addr} {vs : List V} {xs : List D} : H a = some (.lst vs) → Reps H vs xs → Rep H (.ref a) (.lst xs)
  | emp {a : Addr} : H a = some (.dK []) → Rep H (.ref a) .emp
inductive Reps (H : Hp) : List V → List D → Prop
  | nil : Reps H [] []
  | cons {v : V} {d : D} {vs : List V} {ds : List D} : Rep H v d → Reps H vs ds → Reps H (v :: vs) (d :: ds)
end
mutual
theorem Rep.mono {H H' : Hp} {v : V} {d : D} : Rep H v d → Same H H' → Rep H' v d
  | .non, _ => .non
  | .bl b, _ => .bl b
  | .int i, _ => .int i
  | .str x, _ => .str x
  | .tup e r, s => .tup (s _ _ e) (r.mono s)
  | .lst e r, s => .lst (s _ _ e) (r.mono s)
  | .emp e, s => .emp (s _ _ e)
theorem Reps.mono {H H' : Hp} {vs : List V} {ds : List D} : Reps H vs ds → Same H H' → Reps H' vs ds
  | .nil, _ => .nil
  | .cons h r, s => .cons (h.mono s) (r.mono s)
end
theorem Reps.length {H : Hp} : ∀ {vs : List V} {ds : List D}, Reps H vs ds → vs.length = ds.length
  | _, _, .nil => rfl
  | _, _, .cons _ r => by rw [List.length_cons, List.length_cons, r.length]
theorem Reps.get {H : Hp} : ∀ {vs : List V} {ds : List D} {i : Nat} {v : V}, Reps H vs ds → vs[i]? = some v → ∃ d, ds[i]? = some d ∧ Rep H v d
  | _, _, i, v, .nil, e => by simp at e
  | _, _, 0, v, .cons h r, e => by simp at e; subst e; exact ⟨_, rfl, h⟩
  | _, _, i + 1, v, .cons h r, e => by
    obtain ⟨d, h1, h2⟩ := r.get (i := i) (v := v) (by simpa using e)
    exact ⟨d, by simpa using h1, h2⟩
theorem Reps.append {H : Hp} : ∀ {vs ws : List V} {ds es : List D}, Reps H vs ds → Reps H ws es → Reps H (vs ++ ws) (ds ++ es)
  | _, _, _, _, .nil, s => s
  | _, _, _, _, .cons h r, s => .cons h (r.append s)
theorem Reps.ints {H : Hp} : ∀ ns : List Int, Reps H (ns.map V.int) (ns.map D.int)
  | [] => .nil
  | n :: r => .cons (.int n) (Reps.ints r)
def rm (p : Addr) (H : Hp) : Hp := fun b => if b = p then none else H b
theorem rm_self {p : Addr} {H : Hp} : rm p H p = none := by unfold rm; rw [if_pos rfl]
theorem rm_ne {p b : Addr} {H : Hp} (h : b ≠ p) : rm p H b = H b := by unfold rm; rw [if_neg h]
theorem rm_same {p : Addr} {H : Hp} : Same (rm p H) H := fun b o e => by
  by_cases h : b = p
  · rw [h, rm_self] at e; cases e
  · rwa [rm_ne h] at e
theorem rm_mono {p : Addr} {H H' : Hp} (s : Same (rm p H) H') : Same (rm p H) (rm p H') := fun b o e => by
  by_cases h : b = p
  · rw [h, rm_self] at e; cases e
  · rw [rm_ne h]; exact s b o e
theorem rm_of {p : Addr} {H H' : Hp} (s : Same H H') (n : H p = none) : Same H (rm p H') := fun b o e => by
  rw [rm_ne (ne_of_none e n)]; exact s b o e
theorem rm_upd {p : Addr} {H : Hp} {o : HO} : rm p (upd H p o) = rm p H := by
  funext b; unfold rm upd; split <;> rfl
section
variable {X : Cx} {pins : List (Addr × Obj)} {σ : St} {H : Hp} {s : Shared}
theorem get_toArray {us : List Value} {j : Nat} (h : j < us.toArray.size) {v : Value} (e : us[j]? = some v) : us.toArray[j] = v := by
  obtain ⟨h', q⟩ := List.getElem?_eq_some_iff.mp e
  simpa using q
theorem range_all_eqvs (f : Nat → Bool) : ∀ (xs ys : List D), xs.length = ys.length → (∀ (j : Nat) x y, xs[j]? = some x → ys[j]? = some y → f j = x.eqv y) → (List.range xs.length).all f = eqvs xs ys := by
  intro xs
  induction xs generalizing f with
  | nil => intro ys hl _; cases ys with
    | nil => rfl
    | cons _ _ => simp at hl
  | cons x r ih =>
    intro ys hl h
    cases ys with
    | nil => simp at hl
    | cons y q =>
      rw [List.length_cons, List.range_succ_eq_map, List.all_cons, List.all_map, eqvs, h 0 x y rfl rfl]
      congr 1
      exact ih (fun j => f (j + 1)) q (by simpa using hl) fun j x' y' e1 e2 => h (j + 1) x' y' (by simpa using e1) (by simpa using e2)
theorem eqvs_len : ∀ (xs ys : List D), xs.length ≠ ys.length → eqvs xs ys = false
  | [], [], h => absurd rfl h
  | [], _ :: _, _ => rfl
  | _ :: _, [], _ => rfl
  | x :: r, y :: q, h => by rw [eqvs, eqvs_len r q (by simpa using h), Bool.and_false]
def ansAt (xs ys : List D) (j : Nat) : Bool := match xs[j]?, ys[j]? with
  | some x, some y => x.eqv y
  | _, _ => true
theorem range_min_eqvs (xs ys : List D) : ((List.range (min xs.length ys.length)).all (ansAt xs ys) && xs.length == ys.length) = eqvs xs ys := by
  by_cases h : xs.length = ys.length
  · rw [← h, Nat.min_self, beq_self_eq_true, Bool.and_true]
    refine range_all_eqvs _ xs ys h fun j x y e1 e2 => ?_
    unfold ansAt; rw [e1, e2]
  · rw [eqvs_len xs ys h, beq_eq_false_iff_ne.mpr h, Bool.and_false]
theorem IsTup.isT {h : Heap} {a : Addr} {its : Array Value} (t : IsTup h a its) : h.IsTuple a its := by
  first
  | exact t
  | (obtain ⟨o, e, c, n, d⟩ := t; exact ⟨o, e, c, n, d⟩)
  | (obtain ⟨o, e, c, n, d, _⟩ := t; exact ⟨o, e, c, n, d⟩)
mutual
theorem Rep.inj {H : Hp} {v : V} {d e : D} : Rep H v d → Rep H v e → d = e
  | .non, .non => rfl
  | .bl _, .bl _ => rfl
  | .int _, .int _ => rfl
  | .str _, .str _ => rfl
  | .tup e r, .tup e' r' => by rw [e] at e'; cases e'; rw [r.inj r']
  | .tup e r, .lst e' r' => by rw [e] at e'; cases e'
  | .tup e r, .emp e' => by rw [e] at e'; cases e'
  | .lst e r, .tup e' r' => by rw [e] at e'; cases e'
  | .lst e r, .lst e' r' => by rw [e] at e'; cases e'; rw [r.inj r']
  | .lst e r, .emp e' => by rw [e] at e'; cases e'
  | .emp e, .tup e' r' => by rw [e] at e'; cases e'
  | .emp e, .lst e' r' => by rw [e] at e'; cases e'
  | .emp e, .emp e' => rfl
theorem Reps.inj {H : Hp} {vs : List V} {ds es : List D} : Reps H vs ds → Reps H vs es → ds = es
  | .nil, .nil => rfl
  | .cons h r, .cons h' r' => by rw [h.inj h', r.inj r']
end
theorem dep_get : ∀ {xs : List D} {j : Nat} {x : D}, xs[j]? = some x → x.dep ≤ deps xs
  | [], j, x, e => by simp at e
  | y :: r, 0, x, e => by simp at e; subst e; rw [deps]; omega
  | y :: r, j + 1, x, e => by
    have := dep_get (xs := r) (j := j) (x := x) (by simpa using e)
    rw [deps]; omega
theorem pure_get : ∀ {xs : List D} {j : Nat} {x : D}, pures xs = true → xs[j]? = some x → x.pure = true
  | [], j, x, _, e => by simp at e
  | y :: r, 0, x, h, e => by simp at e; subst e; rw [pures, Bool.and_eq_true] at h; exact h.1
  | y :: r, j + 1, x, h, e => by rw [pures, Bool.and_eq_true] at h; exact pure_get (j := j) h.2 (by simpa using e)
theorem tupAt {P : Program} {w : World} (hok : HOk P w H s.heap) {a : Addr} {vs : List V} (e : H a = some (.tup vs)) : ∃ its : List Value, Vals vs its ∧ s.heap.IsTuple a its.toArray := by
  obtain ⟨_, its, r, t⟩ := hok a _ e
  exact ⟨its, r, IsTup.isT t⟩
theorem lstAt {P : Program} {w : World} (hok : HOk P w H s.heap) {a : Addr} {vs : List V} (e : H a = some (.lst vs)) : ∃ its : List Value, Vals vs its ∧ s.heap.IsList a its.toArray := by
  obtain ⟨_, its, n, r, t⟩ := hok a _ e
  exact ⟨its, r, _, t, rfl, n, rfl⟩
theorem items_ans {A : Around} {vs ws : List V} {xs ys : List D} {us zs : List Value} (rx : Reps H vs xs) (ry : Reps H ws ys) (qx : Vals vs us) (qy : Vals ws zs)
    (ih : ∀ (j : Nat) x y v w u z, xs[j]? = some x → ys[j]? = some y → Rep H v x → Rep H w y → RelV v u → RelV w z → SeqAt.EqAt A s u z (x.eqv y)) :
    ∀ j (h1 : j < us.toArray.size) (h2 : j < zs.toArray.size), SeqAt.EqAt A s us.toArray[j] zs.toArray[j] (ansAt xs ys j) := fun j h1 h2 => by
  have l1 := qx.length
  have l2 := qy.length
  rw [List.size_toArray] at h1 h2
  have g1 : vs[j]? = some (vs[j]'(by omega)) := List.getElem?_eq_getElem (by omega)
  have g2 : ws[j]? = some (ws[j]'(by omega)) := List.getElem?_eq_getElem (by omega)
  obtain ⟨u, hu, ru⟩ := qx.get g1
  obtain ⟨z, hz, rz⟩ := qy.get g2
  obtain ⟨x, hx, px⟩ := rx.get g1
  obtain ⟨y, hy, py⟩ := ry.get g2
  rw [get_toArray _ hu, get_toArray _ hz]
  unfold ansAt
  rw [hx, hy]
  exact ih j x y _ _ u z hx hy px py ru rz
theorem in1_units (A : Around) : A.in1.units = A.units + 1 := rfl
theorem eqAt_n {P : Program} {w : World} (hok : HOk P w H s.heap) : ∀ (n : Nat) (A : Around) {v w : V} {d e : D} {u z : Value}, d.dep ≤ n → Rep H v d → Rep H w e → RelV v u → RelV w z → d.pure = true → e.pure = true → A.units + n < cLine →
    SeqAt.EqAt A s u z (d.eqv e) := by
  intro n
  induction n with
  | zero =>
    intro A v w d e u z hd rd re ru rz pd pe hu
    cases rd with
    | bl _ => simp [D.pure] at pd
    | emp _ => simp [D.pure] at pd
    | tup _ _ => simp [D.dep] at hd
    | lst _ _ => simp [D.dep] at hd
    | non =>
      cases ru
      cases re with
      | bl _ => simp [D.pure] at pe
      | emp _ => simp [D.pure] at pe
      | non => cases rz; exact SeqAt.EqAt.same .none
      | int j => obtain ⟨t, rfl⟩ := rz; exact SeqAt.EqAt.none_int j t
      | str y => obtain ⟨t, rfl⟩ := rz; exact SeqAt.EqAt.none_str y t
      | tup ea _ => cases rz; obtain ⟨its, _, ht⟩ := tupAt hok ea; exact SeqAt.EqAt.none_tuple ht (by omega)
      | lst ea _ => cases rz; obtain ⟨its, _, ht⟩ := lstAt hok ea; exact SeqAt.EqAt.none_list ht (by omega)
    | int i =>
      obtain ⟨t, rfl⟩ := ru
      cases re with
      | bl _ => simp [D.pure] at pe
      | emp _ => simp [D.pure] at pe
      | non => cases rz; exact SeqAt.EqAt.int_none i t
      | int j => obtain ⟨t', rfl⟩ := rz; exact SeqAt.EqAt.int_int i t j t'
      | str y => obtain ⟨t', rfl⟩ := rz; exact SeqAt.EqAt.int_str i t y t'
      | tup ea _ => cases rz; obtain ⟨its, _, ht⟩ := tupAt hok ea; exact SeqAt.EqAt.int_tuple i t ht (by omega)
      | lst ea _ => cases rz; obtain ⟨its, _, ht⟩ := lstAt hok ea; exact SeqAt.EqAt.int_list i t ht (by omega)
    | str x =>
      obtain ⟨t, rfl⟩ := ru
      cases re with
      | bl _ => simp [D.pure] at pe
      | emp _ => simp [D.pure] at pe
      | non => cases rz; exact SeqAt.EqAt.str_none x t
      | int j => obtain ⟨t', rfl⟩ := rz; exact SeqAt.EqAt.str_int x t j t'
      | str y => obtain ⟨t', rfl⟩ := rz; exact SeqAt.EqAt.str_str x t y t'
      | tup ea _ => cases rz; obtain ⟨its, _, ht⟩ := tupAt hok ea; exact SeqAt.EqAt.str_tuple x t ht (by omega)
      | lst ea _ => cases rz; obtain ⟨its, _, ht⟩ := lstAt hok ea; exact SeqAt.EqAt.str_list x t ht (by omega)
  | succ n ih =>
    intro A v w d e u z hd rd re ru rz pd pe hu
    by_cases h0 : d.dep ≤ n
    · exact ih A h0 rd re ru rz pd pe (by omega)
    · have ihn : ∀ {xs ys : List D}, deps xs ≤ n → pures xs = true → pures ys = true → ∀ (j : Nat) x y v w u z, xs[j]? = some x → ys[j]? = some y → Rep H v x → Rep H w y → RelV v u → RelV w z → SeqAt.EqAt A.in1 s u z (x.eqv y) :=
        fun {xs ys} hx px py j x y v w u z e1 e2 r1 r2 q1 q2 => ih A.in1 (Nat.le_trans (dep_get e1) hx) r1 r2 q1 q2 (pure_get px e1) (pure_get py e2) (by rw [in1_units]; omega)
      cases rd with
      | non => simp [D.dep] at h0
      | bl _ => simp [D.dep] at h0
      | int _ => simp [D.dep] at h0
      | str _ => simp [D.dep] at h0
      | emp _ => simp [D.dep] at h0
      | @tup a vs xs ea rs =>
        cases ru
        obtain ⟨its, qi, hi⟩ := tupAt hok ea
        rw [D.dep] at hd
        rw [D.pure] at pd
        cases re with
        | bl _ => simp [D.pure] at pe
        | emp _ => simp [D.pure] at pe
        | non => cases rz; exact SeqAt.EqAt.tuple_none hi (by omega)
        | int j => obtain ⟨t', rfl⟩ := rz; exact SeqAt.EqAt.tuple_int j t' hi (by omega)
        | str y => obtain ⟨t', rfl⟩ := rz; exact SeqAt.EqAt.tuple_str y t' hi (by omega)
        | lst eb _ => cases rz; obtain ⟨its2, _, ht⟩ := lstAt hok eb; exact SeqAt.EqAt.tuple_list hi ht (by omega)
        | @tup b ws ys eb rs2 =>
          cases rz
          rw [D.pure] at pe
          by_cases hab : a = b
          · subst hab
            rw [ea] at eb; cases eb
            rw [rs.inj rs2, D.eqv_refl]
            exact SeqAt.EqAt.same _
          · obtain ⟨its2, qj, hj⟩ := tupAt hok eb
            refine SeqAt.EqAt.of_refs hab ?_
            have q := SeqAt.RcAt.tuples (A := A) hi hj (by omega) (e := ansAt xs ys) (items_ans rs rs2 qi qj (ihn (by omega) pd pe))
            have l1 := qi.length
            have l2 := qj.length
            rw [List.size_toArray, List.size_toArray, ← l1, ← l2, rs.length, rs2.length, range_min_eqvs] at q
            rw [D.eqv]; exact q
      | @lst a vs xs ea rs =>
        cases ru
        obtain ⟨its, qi, hi⟩ := lstAt hok ea
        rw [D.dep] at hd
        rw [D.pure] at pd
        cases re with
        | bl _ => simp [D.pure] at pe
        | emp _ => simp [D.pure] at pe
        | non => cases rz; exact SeqAt.EqAt.list_none hi (by omega)
        | int j => obtain ⟨t', rfl⟩ := rz; exact SeqAt.EqAt.list_int j t' hi (by omega)
        | str y => obtain ⟨t', rfl⟩ := rz; exact SeqAt.EqAt.list_str y t' hi (by omega)
        | tup eb _ => cases rz; obtain ⟨its2, _, ht⟩ := tupAt hok eb; exact SeqAt.EqAt.list_tuple hi ht (by omega)
        | @lst b ws ys eb rs2 =>
          cases rz
          rw [D.pure] at pe
          by_cases hab : a = b
          · subst hab
            rw [ea] at eb; cases eb
            rw [rs.inj rs2, D.eqv_refl]
            exact SeqAt.EqAt.same _
          · obtain ⟨its2, qj, hj⟩ := lstAt hok eb
            refine SeqAt.EqAt.of_refs hab ?_
            have l1 := qi.length
            have l2 := qj.length
            have l3 := rs.length
            have l4 := rs2.length
            by_cases hl : xs.length = ys.length
            · have q := SeqAt.RcAt.lists (A := A) hi hj (by rw [List.size_toArray, List.size_toArray]; omega) (by omega) (e := ansAt xs ys) (items_ans rs rs2 qi qj (ihn (by omega) pd pe))
              have e1 : its.toArray.size = xs.length := by rw [List.size_toArray]; omega
              rw [e1, range_all_eqvs (ansAt xs ys) xs ys hl fun j x y e1 e2 => by unfold ansAt; rw [e1, e2]] at q
              rw [D.eqv]; exact q
            · rw [D.eqv, eqvs_len xs ys hl]
              exact SeqAt.RcAt.lists_lengths hi hj (by rw [List.size_toArray, List.size_toArray]; simp; omega) (by omega)
end
section
variable {X : Cx} {pins : List (Addr × Obj)} {σ : St} {H : Hp} {s : Shared}
theorem rcAt_rep {P : Program} {w : World} (hok : HOk P w H s.heap) (n : Nat) (A : Around) {v w : V} {d e : D} {u z : Value} (hd : d.dep ≤ n) (rd : Rep H v d) (re : Rep H w e) (ru : RelV v u) (rz : RelV w z) (pd : d.pure = true) (pe : e.pure = true) (hu : A.units + n < cLine) :
    SeqAt.RcAt A s u z (d.eqv e) ∧ SeqAt.RcNeAt A s u z (!(d.eqv e)) := by
  have ihn : ∀ {xs ys : List D}, deps xs + 1 ≤ n → pures xs = true → pures ys = true → ∀ (j : Nat) x y v w u z, xs[j]? = some x → ys[j]? = some y → Rep H v x → Rep H w y → RelV v u → RelV w z → SeqAt.EqAt A.in1 s u z (x.eqv y) :=
    fun {xs ys} hx px py j x y v w u z e1 e2 r1 r2 q1 q2 => eqAt_n hok (n - 1) A.in1 (Nat.le_trans (dep_get e1) (by omega)) r1 r2 q1 q2 (pure_get px e1) (pure_get py e2) (by rw [in1_units]; omega)
  cases rd with
  | bl _ => simp [D.pure] at pd
  | emp _ => simp [D.pure] at pd
  | non =>
    cases ru
    cases re with
    | bl _ => simp [D.pure] at pe
    | emp _ => simp [D.pure] at pe
    | non => cases rz; exact ⟨SeqAt.RcAt.none_none, SeqAt.RcNeAt.none_none⟩
    | int j => obtain ⟨t, rfl⟩ := rz; exact ⟨SeqAt.RcAt.none_int j t, SeqAt.RcNeAt.none_int j t⟩
    | str y => obtain ⟨t, rfl⟩ := rz; exact ⟨SeqAt.RcAt.none_str y t, SeqAt.RcNeAt.none_str y t⟩
    | tup ea _ => cases rz; obtain ⟨its, _, ht⟩ := tupAt hok ea; exact ⟨SeqAt.RcAt.none_tuple ht (by omega), SeqAt.RcNeAt.none_tuple ht (by omega)⟩
    | lst ea _ => cases rz; obtain ⟨its, _, ht⟩ := lstAt hok ea; exact ⟨SeqAt.RcAt.none_list ht (by omega), SeqAt.RcNeAt.none_list ht (by omega)⟩
  | int i =>
    obtain ⟨t, rfl⟩ := ru
    cases re with
    | bl _ => simp [D.pure] at pe
    | emp _ => simp [D.pure] at pe
    | non => cases rz; exact ⟨SeqAt.RcAt.int_none i t, SeqAt.RcNeAt.int_none i t⟩
    | int j => obtain ⟨t', rfl⟩ := rz; exact ⟨SeqAt.RcAt.int_int i t j t', SeqAt.RcNeAt.int_int i t j t'⟩
    | str y => obtain ⟨t', rfl⟩ := rz; exact ⟨SeqAt.RcAt.int_str i t y t', SeqAt.RcNeAt.int_str i t y t'⟩
    | tup ea _ => cases rz; obtain ⟨its, _, ht⟩ := tupAt hok ea; exact ⟨SeqAt.RcAt.int_tuple i t ht (by omega), SeqAt.RcNeAt.int_tuple i t ht (by omega)⟩
    | lst ea _ => cases rz; obtain ⟨its, _, ht⟩ := lstAt hok ea; exact ⟨SeqAt.RcAt.int_list i t ht (by omega), SeqAt.RcNeAt.int_list i t ht (by omega)⟩
  | str x =>
    obtain ⟨t, rfl⟩ := ru
    cases re with
    | bl _ => simp [D.pure] at pe
    | emp _ => simp [D.pure] at pe
    | non => cases rz; exact ⟨SeqAt.RcAt.str_none x t, SeqAt.RcNeAt.str_none x t⟩
    | int j => obtain ⟨t', rfl⟩ := rz; exact ⟨SeqAt.RcAt.str_int x t j t', SeqAt.RcNeAt.str_int x t j t'⟩
    | str y => obtain ⟨t', rfl⟩ := rz; exact ⟨SeqAt.RcAt.str_str x t y t', SeqAt.RcNeAt.str_str x t y t'⟩
    | tup ea _ => cases rz; obtain ⟨its, _, ht⟩ := tupAt hok ea; exact ⟨SeqAt.RcAt.str_tuple x t ht (by omega), SeqAt.RcNeAt.str_tuple x t ht (by omega)⟩
    | lst ea _ => cases rz; obtain ⟨its, _, ht⟩ := lstAt hok ea; exact ⟨SeqAt.RcAt.str_list x t ht (by omega), SeqAt.RcNeAt.str_list x t ht (by omega)⟩
  | @tup a vs xs ea rs =>
    cases ru
    obtain ⟨its, qi, hi⟩ := tupAt hok ea
    rw [D.dep] at hd
    rw [D.pure] at pd
    cases re with
    | bl _ => simp [D.pure] at pe
    | emp _ => simp [D.pure] at pe
    | non => cases rz; exact ⟨SeqAt.RcAt.tuple_none hi (by omega), SeqAt.RcNeAt.tuple_none hi (by omega)⟩
    | int j => obtain ⟨t', rfl⟩ := rz; exact ⟨SeqAt.RcAt.tuple_int j t' hi (by omega), SeqAt.RcNeAt.tuple_int j t' hi (by omega)⟩
    | str y => obtain ⟨t', rfl⟩ := rz; exact ⟨SeqAt.RcAt.tuple_str y t' hi (by omega), SeqAt.RcNeAt.tuple_str y t' hi (by omega)⟩
    | lst eb _ => cases rz; obtain ⟨its2, _, ht⟩ := lstAt hok eb; exact ⟨SeqAt.RcAt.tuple_list hi ht (by omega), SeqAt.RcNeAt.tuple_list hi ht (by omega)⟩
    | @tup b ws ys eb rs2 =>
      cases rz
      rw [D.pure] at pe
      obtain ⟨its2, qj, hj⟩ := tupAt hok eb
      have l1 := qi.length
      have l2 := qj.length
      have q := SeqAt.RcAt.tuples (A := A) hi hj (by omega) (e := ansAt xs ys) (items_ans rs rs2 qi qj (ihn hd pd pe))
      have q' := SeqAt.RcNeAt.tuples (A := A) hi hj (by omega) (e := ansAt xs ys) (items_ans rs rs2 qi qj (ihn hd pd pe))
      rw [List.size_toArray, List.size_toArray, ← l1, ← l2, rs.length, rs2.length, range_min_eqvs] at q q'
      rw [D.eqv]; exact ⟨q, q'⟩
  | @lst a vs xs ea rs =>
    cases ru
    obtain ⟨its, qi, hi⟩ := lstAt hok ea
    rw [D.dep] at hd
    rw [D.pure] at pd
    cases re with
    | bl _ => simp [D.pure] at pe
    | emp _ => simp [D.pure] at pe
    | non => cases rz; exact ⟨SeqAt.RcAt.list_none hi (by omega), SeqAt.RcNeAt.list_none hi (by omega)⟩
    | int j => obtain ⟨t', rfl⟩ := rz; exact ⟨SeqAt.RcAt.list_int j t' hi (by omega), SeqAt.RcNeAt.list_int j t' hi (by omega)⟩
    | str y => obtain ⟨t', rfl⟩ := rz; exact ⟨SeqAt.RcAt.list_str y t' hi (by omega), SeqAt.RcNeAt.list_str y t' hi (by omega)⟩
    | tup eb _ => cases rz; obtain ⟨its2, _, ht⟩ := tupAt hok eb; exact ⟨SeqAt.RcAt.list_tuple hi ht (by omega), SeqAt.RcNeAt.list_tuple hi ht (by omega)⟩
    | @lst b ws ys eb rs2 =>
      cases rz
      rw [D.pure] at pe
      obtain ⟨its2, qj, hj⟩ := lstAt hok eb
      have l1 := qi.length
      have l2 := qj.length
      have l3 := rs.length
      have l4 := rs2.length
      by_cases hl : xs.length = ys.length
      · have sz : its.toArray.size = its2.toArray.size := by rw [List.size_toArray, List.size_toArray]; omega
        have q := SeqAt.RcAt.lists (A := A) hi hj sz (by omega) (e := ansAt xs ys) (items_ans rs rs2 qi qj (ihn hd pd pe))
        have q' := SeqAt.RcNeAt.lists (A := A) hi hj sz (by omega) (e := ansAt xs ys) (items_ans rs rs2 qi qj (ihn hd pd pe))
        have e1 : its.toArray.size = xs.length := by rw [List.size_toArray]; omega
        rw [e1, range_all_eqvs (ansAt xs ys) xs ys hl fun j x y e1 e2 => by unfold ansAt; rw [e1, e2]] at q q'
        rw [D.eqv]; exact ⟨q, q'⟩
      · rw [D.eqv, eqvs_len xs ys hl]
        have sz : (its.toArray.size != its2.toArray.size) = true := by rw [List.size_toArray, List.size_toArray]; simp; omega
        exact ⟨SeqAt.RcAt.lists_lengths hi hj sz (by omega), SeqAt.RcNeAt.lists_lengths hi hj sz (by omega)⟩
def rEqD (n : Nat) : R2 := fun x y H Q => ∃ d e, Rep H x d ∧ Rep H y e ∧ d.pure = true ∧ e.pure = true ∧ d.dep ≤ n ∧ Q (.bl (d.eqv e)) H
def rNeD (n : Nat) : R2 := fun x y H Q => ∃ d e, Rep H x d ∧ Rep H y e ∧ d.pure = true ∧ e.pure = true ∧ d.dep ≤ n ∧ Q (.bl (!(d.eqv e))) H
theorem op_eqD {n : Nat} (hu : X.A.units + n < cLine) : OpR X (compareOp .Eq) (rEqD n) := by
  intro pins s σ H x y v u Q I rx ry h
  obtain ⟨d, e, rd, re, pd, pe, hd, q⟩ := h
  exact (rcAt_rep I.hok n X.A hd rd re rx ry pd pe hu).1 X.prog X.w X.xe _ ⟨.bl _, H, I, rfl, q⟩
theorem op_neD {n : Nat} (hu : X.A.units + n < cLine) : OpR X (compareOp .NotEq) (rNeD n) := by
  intro pins s σ H x y v u Q I rx ry h
  obtain ⟨d, e, rd, re, pd, pe, hd, q⟩ := h
  exact (rcAt_rep I.hok n X.A hd rd re rx ry pd pe hu).2 X.prog X.w X.xe _ ⟨.bl _, H, I, rfl, q⟩
end
end L3
namespace L3
open PySem PySem.Spec PyProof.Rows L2
section
variable {X : Cx}
def rAddG : R2 := fun x y H Q => match x, y with
  | .int i, .int j => Q (.int (i + j)) H
  | .str a, .str b => a.length + b.length ≤ sizeLine ∧ Q (.str (a ++ b)) H
  | .ref a, .ref b => ∃ xs zs, H a = some (.lst xs) ∧ H b = some (.lst zs) ∧ xs.length + zs.length ≤ sizeLine ∧ New H (.lst (xs ++ zs)) Q
  | _, _ => False
theorem op_addG : OpR X (binaryOp .Add) rAddG := by
  intro pins s σ H x y v u Q I rx ry q
  cases x <;> cases y <;> first
    | exact False.elim q
    | exact op_add pins s σ H _ _ v u Q I rx ry ⟨_, _, rfl, rfl, q⟩
    | exact op_add_str pins s σ H _ _ v u Q I rx ry ⟨_, _, rfl, rfl, q.1, q.2⟩
    | (obtain ⟨xs, zs, h1, h2, h3, h4⟩ := q; exact op_cat pins s σ H _ _ v u Q I rx ry ⟨_, _, xs, zs, rfl, rfl, h1, h2, h3, fun p n => h4.at n⟩)
def rEqG (n : Nat) : R2 := fun x y H Q => match x, y with
  | .int i, .int j => Q (.bl (decide (i = j))) H
  | .bl a, .bl b => Q (.bl (decide (a = b))) H
  | .str a, .str b => Q (.bl (decide (a = b))) H
  | x, y => rEqD n x y H Q
def rNeG (n : Nat) : R2 := fun x y H Q => match x, y with
  | .int i, .int j => Q (.bl (!decide (i = j))) H
  | .bl a, .bl b => Q (.bl (!decide (a = b))) H
  | .str a, .str b => Q (.bl (!decide (a = b))) H
  | x, y => rNeD n x y H Q
theorem decI {i j : Int} : decide (V.int i = V.int j) = decide (i = j) := by simp
theorem decB {i j : Bool} : decide (V.bl i = V.bl j) = decide (i = j) := by simp
theorem decS {i j : Str} : decide (V.str i = V.str j) = decide (i = j) := by simp
theorem op_eqG {n : Nat} (hu : X.A.units + n < cLine) : OpR X (compareOp .Eq) (rEqG n) := by
  intro pins s σ H x y v u Q I rx ry q
  cases x <;> cases y <;> first
    | exact op_eqD hu pins s σ H _ _ v u Q I rx ry q
    | (refine op_eq pins s σ H _ _ v u Q I rx ry ⟨rfl, ?_⟩; rw [decI]; exact q)
    | (refine op_eq pins s σ H _ _ v u Q I rx ry ⟨rfl, ?_⟩; rw [decB]; exact q)
    | (refine op_eq pins s σ H _ _ v u Q I rx ry ⟨rfl, ?_⟩; rw [decS]; exact q)
theorem op_neG {n : Nat} (hu : X.A.units + n < cLine) : OpR X (compareOp .NotEq) (rNeG n) := by
  intro pins s σ H x y v u Q I rx ry q
  cases x <;> cases y <;> first
    | exact op_neD hu pins s σ H _ _ v u Q I rx ry q
    | (refine op_ne pins s σ H _ _ v u Q I rx ry ⟨rfl, ?_⟩; rw [decI]; exact q)
    | (refine op_ne pins s σ H _ _ v u Q I rx ry ⟨rfl, ?_⟩; rw [decB]; exact q)
    | (refine op_ne pins s σ H _ _ v u Q I rx ry ⟨rfl, ?_⟩; rw [decS]; exact q)
def rIxG (K : PySem.W.Frag) : R2 := fun x y H Q => ∃ p xs i v, x = .ref p ∧ y = .int i ∧ (SqL K H p xs ∨ SqT K H p xs) ∧ atI xs i = some v ∧ Q v H
theorem ix_G : IxR X (rIxG X.K) := by
  intro value slice pins s σ H x y v u Q I rx ry q hs
  obtain ⟨p, xs, i, w, h1, h2, h3 | h3, h4, h5⟩ := q
  · exact ix_list value slice pins s σ H x y v u Q I rx ry ⟨p, xs, i, w, h1, h2, h3, h4, h5⟩ hs
  · exact ix_tup value slice pins s σ H x y v u Q I rx ry ⟨p, xs, i, w, h1, h2, h3, h4, h5⟩ hs
def iSeq (K : PySem.W.Frag) (tl : TE) : TI := fun σ H R => tl σ H fun x H1 => ∃ a, x = .ref a ∧ (((∃ xs, SqL K H1 a xs) ∧ R (Itl K a) H1) ∨ ((∃ xs, SqT K H1 a xs) ∧ R (Itt K a) H1))
def tOrG (K : PySem.W.Frag) (ta tb : TE) : TE := fun σ H Q => ta σ H fun x H1 => ∃ k, TruV K x H1 k ∧ if k = true then Q x H1 else tb σ H1 Q
variable {a b : Expr} {rest : List Expr} {ta tb : TE} {pos : Pos}
theorem pe_orG (ha : PE X a ta) (hb : PE X (.BoolOp .Or (b :: rest) pos) tb) : PE X (.BoolOp .Or (a :: b :: rest) pos) (tOrG X.K ta tb) := by
  intro pins s σ H Q I h
  refine BoolOp_or (thn (ha pins s σ H _ I h) fun v s1 hh => ?_)
  obtain ⟨x, H1, I1, r1, k, tv, q1⟩ := hh
  refine thn (tru_ok pins s1 σ H1 x v (fun c H2 => H2 = H1 ∧ c = k) I1 r1 ⟨k, tv, rfl, rfl⟩) fun c s2 hh => ?_
  obtain ⟨H2, I2, e1, e2⟩ := hh
  subst e1 e2
  cases c with
  | true => rw [if_pos rfl] at q1; exact ⟨x, H2, I2, r1, q1⟩
  | false => rw [if_neg Bool.false_ne_true] at q1; exact hb pins s2 σ H2 Q I2 q1
end
section
variable {X : Cx} {tg : Expr}
theorem pi_seq {l : Expr} {tl : TE} (hl : PE X l tl) : PI X tg l (iSeq X.K tl) := by
  intro pins s σ H R I h
  refine thn (hl pins s σ H _ I h) fun v s1 hh => ?_
  obtain ⟨x, H1, I1, r1, a, ex, q⟩ := hh
  subst ex
  cases r1
  rcases q with ⟨⟨xs, hx⟩, q⟩ | ⟨⟨xs, hx⟩, q⟩
  · obtain ⟨its, r, p, hz⟩ := I1.list hx
    refine wpAny_pyIter_list p.isList ?_
    refine ⟨s1.heap.objs.size, [s1.heap.objs.size], _, _, H1, rfl, I1.kept (t' := s1.toks) fun b o e => Heap.get?_push_of_some _ e, turn_list a _, ⟨_, Heap.get?_push_size _ rfl, rfl, rfl⟩, fun b hb => ?_, q⟩
    have e : b = s1.heap.objs.size := by simpa using hb
    subst e
    exact I1.fpOk (Nat.le_refl _) I1.fresh
  · obtain ⟨its, r, p, hz⟩ := I1.tuple hx
    refine wpAny_pyIter_tuple (IsTup.isT p) ?_
    refine ⟨s1.heap.objs.size, [s1.heap.objs.size], _, _, H1, rfl, I1.kept (t' := s1.toks) fun b o e => Heap.get?_push_of_some _ e, turn_tuple a _, ⟨_, Heap.get?_push_size _ rfl, rfl, rfl⟩, fun b hb => ?_, q⟩
    have e : b = s1.heap.objs.size := by simpa using hb
    subst e
    exact I1.fpOk (Nat.le_refl _) I1.fresh
def Cal (P : Program) (w : World) (K : PySem.W.Frag) (mg : Str → Option Value) (base : Heap) (CX : CXT) (k : Nat) (x : Str) (sp : Sp) : Prop :=
  ∃ f fd ps, FnOk P w K mg base CX k f fd ps sp ∧ mg x = some (.ref f) ∧ PySem.W.keepIn K (.ref f) = true ∧ Binds K fd ps []
def tCallF (sp : Sp) (E : XK) (t : TA) : TE := fun σ H Q => t σ H fun vs H1 => sp vs H1 Q E
theorem pe_callF {CX : CXT} {k : Nat} {x : Str} {sp : Sp} {E : XK} {e : Expr} {es : List Expr} {t : TA} {p pos : Pos} (C : Cal X.prog X.w X.K X.mg X.base CX k x sp) (hr : Room k X.A) (hx : Passes CX X E) (hg : Gl X x)
    (ha : PA X (e :: es) t) (hdb : (x == ("__debug__" : Str)) = false := by decide) (he : starEach (e :: es) X.env = (false, eval e X.env) :: starEach es X.env := by rfl) (hpl : (backTo pos (starEach es X.env)).any (·.1) = false := by rfl) :
    PE X (.Call (.Name x p) (e :: es) [] pos) (tCallF sp E t) := by
  obtain ⟨f, fd, ps, F, hm, hk, hb⟩ := C
  have q := pe_call (dvs := []) (ds := []) F hr hg hm hk hb .nil hx ha hdb he hpl (p := p) (pos := pos)
  intro pins s σ H Q I h
  refine q pins s σ H Q I ?_
  show t σ H fun vs H1 => sp (vs ++ []) H1 Q E
  simp only [List.append_nil]
  exact h
theorem Cal.mono {P : Program} {w : World} {K : PySem.W.Frag} {mg : Str → Option Value} {base : Heap} {CX : CXT} {j k : Nat} {x : Str} {sp : Sp} (C : Cal P w K mg base CX j x sp) (h : j ≤ k) : Cal P w K mg base CX k x sp := by
  obtain ⟨f, fd, ps, F, r⟩ := C
  exact ⟨f, fd, ps, F.mono h, r⟩
end
structure Fd (K : PySem.W.Frag) (mg : Str → Option Value) (x : Str) (st : Stmt) (f : Addr) : Prop where
  ex : ∃ fd, Fun K x x st f fd
  at_ : mg x = some (.ref f)
theorem fd_mk {K : PySem.W.Frag} {h : Heap} {mg : Str → Option Value} {x : Str} {st : Stmt} {f : Addr} {oc : Value} {od an : Option Addr} {osl : Array (Option Value)} {kV doc pm cdv ct : Value} (X : K.In h) (G : h.Ns mainGlobals mg)
    (a : PySem.W.nsIn K mainGlobals x = some (some (.ref f))) (l : K.lookup f = some ⟨oc, od, .func (PySem.W.fnOf x x (defArgs st) (defBody st) (defScope st) .none kV doc pm an cdv ct), osl⟩)
    (c : PySem.W.codeIn K cdv x = true) (k : PySem.W.keepIn K (.ref f) = true) : Fd K mg x st f := ⟨⟨_, fun_mk l c k⟩, PySem.W.mg_of X G a⟩
end L3
namespace L3
open PySem PySem.Spec PyProof.Rows L2
theorem hu_n {A : Around} {k : Nat} (hr : Room k A) : A.units + 150 < cLine := by have := hr.un; omega
theorem atI_mem {α : Type} {xs : List α} {i : Int} (h0 : 0 ≤ i) (h1 : i < xs.length) : ∃ v, atI xs i = some v ∧ v ∈ xs := by
  have hlt : i.toNat < xs.length := by omega
  refine ⟨xs[i.toNat], ?_, List.getElem_mem hlt⟩
  have e : ((i.toNat : Nat) : Int) = i := by omega
  have := atI_nat (xs := xs) (j := i.toNat) (v := xs[i.toNat]) (List.getElem?_eq_getElem hlt)
  rw [e] at this
  exact this
theorem atI_ints {ns : List Int} {i : Int} (h0 : 0 ≤ i) (h1 : i < ns.length) : ∃ n, atI (ns.map V.int) i = some (.int n) ∧ n ∈ ns := by
  obtain ⟨v, e, m⟩ := atI_mem (xs := ns.map V.int) h0 (by rw [List.length_map]; exact h1)
  obtain ⟨n, hn, rfl⟩ := List.mem_map.mp m
  exact ⟨n, e, hn⟩
theorem sizeBig {n : Nat} (h : n ≤ 100000) : n < sizeLine := Nat.lt_of_le_of_lt h (by decide)
theorem sizeBig' {n : Nat} (h : n ≤ 100000) : n ≤ sizeLine := Nat.le_of_lt (sizeBig h)
section
variable {g : TG} {tt : TT} {te : TE} {acc : Addr} {σ0 : St} {H0 : Hp} {Q : Hp → Prop}
@[irreducible] def CPost (Pv : Nat → List V → St → Hp → Prop) (acc : Addr) (n i : Nat) (σ2 : St) (y : V) (H4 : Hp) : Prop :=
  ∃ ys, H4 acc = some (.lst ys) ∧ ys.length < sizeLine ∧ ∃ m', m' < n - i ∧ m' = n - (i + 1) ∧ i + 1 ≤ n ∧ ∃ zs, Pv (i + 1) zs σ2 (upd H4 acc (.lst (ys ++ [y])))
@[irreducible] def CSkip (Pv : Nat → List V → St → Hp → Prop) (n i : Nat) (σ2 : St) (H3 : Hp) : Prop := ∃ m', m' < n - i ∧ m' = n - (i + 1) ∧ i + 1 ≤ n ∧ ∃ zs, Pv (i + 1) zs σ2 H3
theorem cpost {Pv : Nat → List V → St → Hp → Prop} {n i : Nat} {σ2 : St} {y : V} {H4 : Hp} {ys : List V} (h1 : H4 acc = some (.lst ys)) (h2 : ys.length < sizeLine) (h3 : i < n) (h4 : Pv (i + 1) (ys ++ [y]) σ2 (upd H4 acc (.lst (ys ++ [y])))) : CPost Pv acc n i σ2 y H4 :=
  by unfold CPost; exact ⟨ys, h1, h2, n - (i + 1), by omega, rfl, h3, _, h4⟩
theorem cskip {Pv : Nat → List V → St → Hp → Prop} {n i : Nat} {σ2 : St} {H4 : Hp} {ys : List V} (h3 : i < n) (h4 : Pv (i + 1) ys σ2 H4) : CSkip Pv n i σ2 H4 := by unfold CSkip; exact ⟨n - (i + 1), by omega, rfl, h3, _, h4⟩
theorem comp_list {K : PySem.W.Frag} {a : Addr} {xs : List V} (Pv : Nat → List V → St → Hp → Prop) (h0 : Pv 0 [] σ0 H0) (hl : ∀ i ys σ H, Pv i ys σ H → SqL K H a xs)
    (hs : ∀ i ys x σ H, xs[i]? = some x → i < xs.length → Pv i ys σ H → g x σ H fun σ2 H2 => tt σ2 H2 fun b H3 => if b = true then te σ2 H3 (CPost Pv acc xs.length i σ2) else CSkip Pv xs.length i σ2 H3)
    (hd : ∀ ys σ H, Pv xs.length ys σ H → Q H) : CompW (Itl K a) g tt te acc σ0 H0 Q := by
  refine ⟨fun i m σ H => m = xs.length - i ∧ i ≤ xs.length ∧ ∃ ys, Pv i ys σ H, ⟨xs.length, by simp, Nat.zero_le _, [], h0⟩, ?_⟩
  rintro i m σ H ⟨rfl, hi, ys, p⟩
  have q := hl i ys σ H p
  by_cases hlt : i < xs.length
  · refine .inr ⟨⟨xs, xs[i], q, by simp [hlt]⟩, fun x H1 y => ?_⟩
    obtain ⟨e, y⟩ := y
    subst e
    have z := hs i ys x σ _ (y xs q) hlt p
    unfold CPost CSkip at z
    exact z
  · have e : i = xs.length := by omega
    subst e
    exact .inl ⟨⟨xs, q, Nat.le_refl _⟩, hd ys σ H p⟩
theorem comp_tup {K : PySem.W.Frag} {a : Addr} {xs : List V} (Pv : Nat → List V → St → Hp → Prop) (h0 : Pv 0 [] σ0 H0) (hl : ∀ i ys σ H, Pv i ys σ H → SqT K H a xs)
    (hs : ∀ i ys x σ H, xs[i]? = some x → i < xs.length → Pv i ys σ H → g x σ H fun σ2 H2 => tt σ2 H2 fun b H3 => if b = true then te σ2 H3 (CPost Pv acc xs.length i σ2) else CSkip Pv xs.length i σ2 H3)
    (hd : ∀ ys σ H, Pv xs.length ys σ H → Q H) : CompW (Itt K a) g tt te acc σ0 H0 Q := by
  refine ⟨fun i m σ H => m = xs.length - i ∧ i ≤ xs.length ∧ ∃ ys, Pv i ys σ H, ⟨xs.length, by simp, Nat.zero_le _, [], h0⟩, ?_⟩
  rintro i m σ H ⟨rfl, hi, ys, p⟩
  have q := hl i ys σ H p
  by_cases hlt : i < xs.length
  · refine .inr ⟨⟨xs, xs[i], q, by simp [hlt]⟩, fun x H1 y => ?_⟩
    obtain ⟨e, y⟩ := y
    subst e
    have z := hs i ys x σ _ (y xs q) hlt p
    unfold CPost CSkip at z
    exact z
  · have e : i = xs.length := by omega
    subst e
    exact .inl ⟨⟨xs, q, Nat.le_refl _⟩, hd ys σ H p⟩
theorem comp_range {lo : Int} {n : Nat} (Pv : Nat → List V → St → Hp → Prop) (h0 : Pv 0 [] σ0 H0)
    (hs : ∀ i ys σ H, i < n → Pv i ys σ H → g (.int (lo + i)) σ H fun σ2 H2 => tt σ2 H2 fun b H3 => if b = true then te σ2 H3 (CPost Pv acc n i σ2) else CSkip Pv n i σ2 H3)
    (hd : ∀ ys σ H, Pv n ys σ H → Q H) : CompW (Itr lo n) g tt te acc σ0 H0 Q := by
  refine ⟨fun i m σ H => m = n - i ∧ i ≤ n ∧ ∃ ys, Pv i ys σ H, ⟨n, by simp, Nat.zero_le _, [], h0⟩, ?_⟩
  rintro i m σ H ⟨rfl, hi, ys, p⟩
  by_cases hlt : i < n
  · refine .inr ⟨hlt, fun x H1 y => ?_⟩
    obtain ⟨e, y⟩ := y
    subst e y
    have z := hs i ys σ _ hlt p
    unfold CPost CSkip at z
    exact z
  · have e : i = n := by omega
    subst e
    exact .inl ⟨Nat.le_refl _, hd ys σ H p⟩
end
end L3
namespace L3
open PySem PySem.Spec PyProof.Rows L2
end L3
namespace L3
open PySem PySem.Spec PyProof.Rows L2
theorem cmL {i j : Int} (h : -(2 ^ 64) < i ∧ i < 2 ^ 64) : CMul i j := .inl h
theorem cmR {i j : Int} (h : -(2 ^ 64) < j ∧ j < 2 ^ 64) : CMul i j := .inr h
theorem rm_trans {p : Addr} {H H1 H2 : Hp} (s1 : Same (rm p H) H1) (s2 : Same (rm p H1) H2) : Same (rm p H) H2 := (rm_mono s1).trans s2
theorem rm_of' {p : Addr} {H H' : Hp} (s : Same H H') : Same (rm p H) (rm p H') := rm_mono (rm_same.trans s)
theorem rm_fresh {p l : Addr} {H : Hp} (h : H l = none) : rm p H l = none := by
  unfold rm; split <;> first | rfl | exact h
theorem rm_look {p b : Addr} {H H' : Hp} {o : HO} (s : Same (rm p H) H') (h : H b = some o) (hb : b ≠ p) : H' b = some o := s b o (by rw [rm_ne hb]; exact h)
theorem rm_free {p l : Addr} {H H' : Hp} {o : HO} (s : Same (rm p H) H') (h : H' l = none) (hp : H' p = some o) : H l = none := by
  have e := s.free h
  rwa [rm_ne (fun z => by rw [z, hp] at h; cases h)] at e
theorem Fd.none {P : Program} {w : World} {K : PySem.W.Frag} {mg : Str → Option Value} {base : Heap} {x : Str} {st : Stmt} {f : Addr} {ps : List Str} {sp : Sp} (F : Fd K mg x st f)
    (hb : ∀ (kV doc pm : Value) (an : Option Addr) (cdv ct : Value) (us : List Value), us.length = ps.length → bindArgs (PySem.W.fnOf x x (defArgs st) (defBody st) (defScope st) .none kV doc pm an cdv ct) ⟨us, []⟩ = pure (ps.zip us))
    (h : ∀ vs H Q E, ¬ sp vs H Q E) : Cal P w K mg base CX0 0 x sp := by
  obtain ⟨⟨fd, F1⟩, F2⟩ := F
  exact ⟨f, fd, ps, ⟨fun vs H Q E q => (h vs H Q E q).elim, fun A outer s H args us vs Q E _ _ _ _ q => (h vs H Q E q).elim⟩, F2, F1.kp, F1.binds hb⟩
end L3
namespace L3
open PySem
theorem bt_len : bootBuiltins "len" = some (.builtin "len") := by decide +kernel
theorem bt_isinstance : bootBuiltins "isinstance" = some (.builtin "isinstance") := by decide +kernel
theorem bt_min : bootBuiltins "min" = some (.builtin "min") := by decide +kernel
theorem bt_sum : bootBuiltins "sum" = some (.builtin "sum") := by decide +kernel
theorem bt_all : bootBuiltins "all" = some (.builtin "all") := by decide +kernel
theorem bt_sorted : bootBuiltins "sorted" = some (.builtin "sorted") := by decide +kernel
theorem bt_int : bootBuiltins "int" = some (.type "int") := by decide +kernel
theorem bt_bool : bootBuiltins "bool" = some (.type "bool") := by decide +kernel
theorem bt_tuple : bootBuiltins "tuple" = some (.type "tuple") := by decide +kernel
theorem bt_list : bootBuiltins "list" = some (.type "list") := by decide +kernel
theorem bt_dict : bootBuiltins "dict" = some (.type "dict") := by decide +kernel
end L3
namespace L3
open PySem PySem.Spec PyProof.Rows L2
section
variable {X : Cx} {a b e o l : Expr} {es rest : List Expr} {ta tb te to tl : TE} {t : TA} {pos : Pos}
theorem kIx (K : PySem.W.Frag) (hK : X.K = K := by rfl) : IxR X (rIxG K) := by subst hK; exact ix_G
theorem kOr (K : PySem.W.Frag) (ha : PE X a ta) (hb : PE X (.BoolOp .Or (b :: rest) pos) tb) (hK : X.K = K := by rfl) : PE X (.BoolOp .Or (a :: b :: rest) pos) (tOrG K ta tb) := by subst hK; exact pe_orG ha hb
def rLen (K : PySem.W.Frag) : List V → Hp → VK → Prop := fun xs H Q => ∃ p ys, xs = [.ref p] ∧ (SqL K H p ys ∨ SqT K H p ys) ∧ Q (.int ys.length) H
theorem kLen (K : PySem.W.Frag) (hK : X.K = K := by rfl) : CallR X (.builtin "len") (rLen K) := by subst hK; exact call_len_seq
def tTru (K : PySem.W.Frag) (ta : TE) : TT := fun σ H Q => ta σ H fun x H' => ∃ k, TruV K x H' k ∧ Q k H'
theorem kTru (K : PySem.W.Frag) (ha : PE X a ta) (he : ∀ whole, isTrue a X.env whole = (do let v ← whole; standAt a.pos; holding [v] (truthy v))) (hK : X.K = K := by rfl) : PT X a (tTru K ta) := by subst hK; exact pt_truth ha he
def rIsi (K : PySem.W.Frag) : List V → Hp → VK → Prop := fun xs H Q => ∃ x T t b, xs = [x, .ty T] ∧ TyOf K H x t ∧ PySem.W.kitOne K t (.type T) = some b ∧ Q (.bl b) H
theorem kIsi (K : PySem.W.Frag) (hK : X.K = K := by rfl) : CallR X (.builtin "isinstance") (rIsi K) := by subst hK; exact call_isi
theorem kListC (K : PySem.W.Frag) (hK : X.K = K := by rfl) : CallR X (.type "list") (rListN K) := by subst hK; exact call_listN
theorem kTupleC (K : PySem.W.Frag) (hK : X.K = K := by rfl) : CallR X (.type "tuple") (rTupleN K) := by subst hK; exact call_tupleN
theorem kSl (K : PySem.W.Frag) (hK : X.K = K := by rfl) : SlR X (rSlN K) := by subst hK; exact sl_listN
theorem kSeq {tg : Expr} (K : PySem.W.Frag) (hl : PE X l tl) (hK : X.K = K := by rfl) : PI X tg l (iSeq K tl) := by subst hK; exact pi_seq hl
def notStar : Expr → Bool
  | .Starred _ _ => false
  | _ => true
theorem star_cons {e : Expr} {es : List Expr} {env : Env} (h : notStar e = true) : starEach (e :: es) env = (false, eval e env) :: starEach es env := by
  cases e <;> first
    | rfl
    | cases h
theorem star_nil {env : Env} : starEach [] env = [] := rfl
theorem star_any {pos : Pos} {env : Env} : ∀ es : List Expr, es.all notStar = true → (backTo pos (starEach es env)).any (·.1) = false
  | [], _ => by rw [star_nil]; rfl
  | e :: r, h => by
    rw [List.all_cons, Bool.and_eq_true] at h
    rw [star_cons h.1]
    have := star_any (pos := pos) (env := env) r h.2
    unfold backTo at this ⊢
    rw [List.map_cons, List.any_cons, this]; rfl
theorem star_all {pos : Pos} {env : Env} : ∀ es : List Expr, es.all notStar = true → (backTo pos (starEach es env)).all (fun x => !x.1) = true
  | [], _ => by rw [star_nil]; rfl
  | e :: r, h => by
    rw [List.all_cons, Bool.and_eq_true] at h
    rw [star_cons h.1]
    have := star_all (pos := pos) (env := env) r h.2
    unfold backTo at this ⊢
    rw [List.map_cons, List.all_cons, this]; rfl
theorem all_head {e : Expr} {es : List Expr} (h : (e :: es).all notStar = true) : notStar e = true ∧ es.all notStar = true := by rw [List.all_cons, Bool.and_eq_true] at h; exact h
theorem paC (ha : PE X e te) (hr : PA X es t) (h : notStar e = true := by rfl) : PA X (e :: es) (tCons te t) := pa_cons ha hr (star_cons h)
theorem cF {CX : CXT} {k : Nat} {x : Str} {sp : Sp} {E : XK} {p pos : Pos} (C : Cal X.prog X.w X.K X.mg X.base CX k x sp) (hr : Room k X.A) (hx : Passes CX X E) (hg : Gl X x)
    (ha : PA X (e :: es) t) (hdb : (x == ("__debug__" : Str)) = false := by decide) (h : (e :: es).all notStar = true := by rfl) : PE X (.Call (.Name x p) (e :: es) [] pos) (tCallF sp E t) :=
  pe_callF C hr hx hg ha hdb (star_cons (all_head h).1) (star_any es (all_head h).2)
theorem cB {id : String} {r : List V → Hp → VK → Prop} {x : Str} {p pos : Pos} (hc : CallR X (.builtin id) r) (hg : Gl X x) (hm : X.mg x = none) (hv : bootBuiltins x = some (.builtin id)) (ha : PA X (e :: es) t) (hn : x ≠ "__name__" := by decide) (hdb : (x == ("__debug__" : Str)) = false := by decide)
    (h : (e :: es).all notStar = true := by rfl) : PE X (.Call (.Name x p) (e :: es) [] pos) (tCB r t) := pe_callB hc hg hm hv ha hn hdb (star_cons (all_head h).1) (star_any es (all_head h).2)
theorem cTy {T : String} {r : List V → Hp → VK → Prop} {x : Str} {p pos : Pos} (hc : CallR X (.type T) r) (hg : Gl X x) (hm : X.mg x = none) (hv : bootBuiltins x = some (.type T)) (ha : PA X (e :: es) t) (hn : x ≠ "__name__" := by decide) (hdb : (x == ("__debug__" : Str)) = false := by decide)
    (h : (e :: es).all notStar = true := by rfl) : PE X (.Call (.Name x p) (e :: es) [] pos) (tCB r t) := pe_callTy hc hg hm hv ha hn hdb (star_cons (all_head h).1) (star_any es (all_head h).2)
theorem iRange1 {tg : Expr} {ta : TA} {p pos : Pos} (hg : Gl X "range") (hm : X.mg "range" = none) (ha : PA X [a] ta) (h : notStar a = true := by rfl) : PI X tg (.Call (.Name "range" p) [a] [] pos) (iRng1 ta) := pi_range1 hg hm ha (by rw [star_cons h, star_nil])
theorem iRange2 {tg : Expr} {ta : TA} {p pos : Pos} (hg : Gl X "range") (hm : X.mg "range" = none) (ha : PA X [a, b] ta) (h : notStar a = true := by rfl) (h' : notStar b = true := by rfl) : PI X tg (.Call (.Name "range" p) [a, b] [] pos) (iRng2 ta) :=
  pi_range2 hg hm ha (by rw [star_cons h, star_cons h', star_nil]) (by rw [star_cons h', star_nil])
theorem kBm {name : Str} {apos cpos : Pos} {T id : String} {r : V → List V → Hp → VK → Prop} (K : PySem.W.Frag) (pa : PlainAttrs T) (slot : Slot T name id) (hty : typeOf (.builtin id) = pure (.type "method_descriptor")) (hm : MtR X id r) (ho : PE X o to) (ha : PA X (e :: es) t)
    (hbase : attributeBase o name X.env (eval o X.env) = eval o X.env := by rfl) (h : (e :: es).all notStar = true := by rfl) (hl : decide ((e :: es).length < 30) = true := by rfl)
    (hline : (apos.endLine == cpos.line) = true := by rfl) (hK : X.K = K := by rfl) :
    PE X (.Call (.Attribute o name apos) (e :: es) [] cpos) (tBM K T r to t) := by
  subst hK
  refine pe_bm pa slot hty hm ho ha hbase ?_ hline (star_cons (all_head h).1) (star_any es (all_head h).2)
  rw [star_all (e :: es) h, Bool.true_and, Bool.and_eq_true]
  exact ⟨rfl, hl⟩
theorem kBm0 {name : Str} {apos cpos : Pos} {T id : String} {r : V → List V → Hp → VK → Prop} (K : PySem.W.Frag) (pa : PlainAttrs T) (slot : Slot T name id) (hty : typeOf (.builtin id) = pure (.type "method_descriptor")) (hm : MtR X id r) (ho : PE X o to)
    (hbase : attributeBase o name X.env (eval o X.env) = eval o X.env := by rfl) (hline : (apos.endLine == cpos.line) = true := by rfl) (hK : X.K = K := by rfl) : PE X (.Call (.Attribute o name apos) [] [] cpos) (tBM0 K T r to) := by subst hK; exact pe_bm0 pa slot hty hm ho hbase hline
theorem kIn (K : PySem.W.Frag) (hK : X.K = K := by rfl) : OpR X (compareOp .In) (rIn K false) := by subst hK; exact op_in_seq
theorem kNotIn (K : PySem.W.Frag) (hK : X.K = K := by rfl) : OpR X (compareOp .NotIn) (rIn K true) := by subst hK; exact op_notIn_seq
end
end L3
namespace L3
open PySem PySem.Spec PyProof.Rows L2
@[irreducible] def QE (X : Cx) (e : Expr) (t : TE) : Prop := PE X e t
@[irreducible] def QT (X : Cx) (e : Expr) (t : TT) : Prop := PT X e t
@[irreducible] def QW (X : Cx) (e : Expr) (t : TT) : Prop := PW X e t
@[irreducible] def QA (X : Cx) (es : List Expr) (t : TA) : Prop := PA X es t
@[irreducible] def QS (X : Cx) (s : Stmt) (t : TS) : Prop := PS X s t
@[irreducible] def QSs (X : Cx) (s : List Stmt) (t : TS) : Prop := PSs X s t
@[irreducible] def QG (X : Cx) (e : Expr) (t : TG) : Prop := PG X e t
@[irreducible] def QGs (X : Cx) (es : List Expr) (t : TGs) : Prop := PGs X es t
@[irreducible] def QI (X : Cx) (tg e : Expr) (t : TI) : Prop := PI X tg e t
@[irreducible] def QO (X : Cx) (e : Option Expr) (t : TO) : Prop := PO X e t
@[irreducible] def QTs (X : Cx) (es : List Expr) (t : TT) : Prop := PTs X es t
@[irreducible] def ROp (X : Cx) (f : Value → Value → Sem Value) (r : R2) : Prop := OpR X f r
@[irreducible] def RUn (X : Cx) (f : Value → Sem Value) (r : V → Hp → VK → Prop) : Prop := UnR X f r
@[irreducible] def RCall (X : Cx) (f : Value) (r : List V → Hp → VK → Prop) : Prop := CallR X f r
@[irreducible] def RIx (X : Cx) (r : R2) : Prop := IxR X r
@[irreducible] def RMt (X : Cx) (id : String) (r : V → List V → Hp → VK → Prop) : Prop := MtR X id r
@[irreducible] def RSl (X : Cx) (r : V → Option Int → Option Int → Hp → VK → Prop) : Prop := SlR X r
@[irreducible] def RSet (X : Cx) (r : TSet) : Prop := PSet X r
@[irreducible] def RIp (X : Cx) (op : Operator) (r : TIp) : Prop := PIp X op r
section
variable {X : Cx}
theorem QE.un {e : Expr} {t : TE} (h : QE X e t) : PE X e t := by unfold QE at h; exact h
theorem QE.mk {e : Expr} {t : TE} (h : PE X e t) : QE X e t := by unfold QE; exact h
theorem QT.un {e : Expr} {t : TT} (h : QT X e t) : PT X e t := by unfold QT at h; exact h
theorem QT.mk {e : Expr} {t : TT} (h : PT X e t) : QT X e t := by unfold QT; exact h
theorem QW.un {e : Expr} {t : TT} (h : QW X e t) : PW X e t := by unfold QW at h; exact h
theorem QW.mk {e : Expr} {t : TT} (h : PW X e t) : QW X e t := by unfold QW; exact h
theorem QA.un {es : List Expr} {t : TA} (h : QA X es t) : PA X es t := by unfold QA at h; exact h
theorem QA.mk {es : List Expr} {t : TA} (h : PA X es t) : QA X es t := by unfold QA; exact h
theorem QS.un {s : Stmt} {t : TS} (h : QS X s t) : PS X s t := by unfold QS at h; exact h
theorem QS.mk {s : Stmt} {t : TS} (h : PS X s t) : QS X s t := by unfold QS; exact h
theorem QSs.un {s : List Stmt} {t : TS} (h : QSs X s t) : PSs X s t := by unfold QSs at h; exact h
theorem QSs.mk {s : List Stmt} {t : TS} (h : PSs X s t) : QSs X s t := by unfold QSs; exact h
theorem QG.un {e : Expr} {t : TG} (h : QG X e t) : PG X e t := by unfold QG at h; exact h
theorem QG.mk {e : Expr} {t : TG} (h : PG X e t) : QG X e t := by unfold QG; exact h
theorem QGs.un {es : List Expr} {t : TGs} (h : QGs X es t) : PGs X es t := by unfold QGs at h; exact h
theorem QGs.mk {es : List Expr} {t : TGs} (h : PGs X es t) : QGs X es t := by unfold QGs; exact h
theorem QI.un {tg e : Expr} {t : TI} (h : QI X tg e t) : PI X tg e t := by unfold QI at h; exact h
theorem QI.mk {tg e : Expr} {t : TI} (h : PI X tg e t) : QI X tg e t := by unfold QI; exact h
theorem QO.un {e : Option Expr} {t : TO} (h : QO X e t) : PO X e t := by unfold QO at h; exact h
theorem QO.mk {e : Option Expr} {t : TO} (h : PO X e t) : QO X e t := by unfold QO; exact h
theorem QTs.un {es : List Expr} {t : TT} (h : QTs X es t) : PTs X es t := by unfold QTs at h; exact h
theorem QTs.mk {es : List Expr} {t : TT} (h : PTs X es t) : QTs X es t := by unfold QTs; exact h
theorem ROp.un {f : Value → Value → Sem Value} {r : R2} (h : ROp X f r) : OpR X f r := by unfold ROp at h; exact h
theorem ROp.mk {f : Value → Value → Sem Value} {r : R2} (h : OpR X f r) : ROp X f r := by unfold ROp; exact h
theorem RUn.un {f : Value → Sem Value} {r : V → Hp → VK → Prop} (h : RUn X f r) : UnR X f r := by unfold RUn at h; exact h
theorem RUn.mk {f : Value → Sem Value} {r : V → Hp → VK → Prop} (h : UnR X f r) : RUn X f r := by unfold RUn; exact h
theorem RCall.un {f : Value} {r : List V → Hp → VK → Prop} (h : RCall X f r) : CallR X f r := by unfold RCall at h; exact h
theorem RCall.mk {f : Value} {r : List V → Hp → VK → Prop} (h : CallR X f r) : RCall X f r := by unfold RCall; exact h
theorem RIx.un {r : R2} (h : RIx X r) : IxR X r := by unfold RIx at h; exact h
theorem RIx.mk {r : R2} (h : IxR X r) : RIx X r := by unfold RIx; exact h
theorem RMt.un {id : String} {r : V → List V → Hp → VK → Prop} (h : RMt X id r) : MtR X id r := by unfold RMt at h; exact h
theorem RMt.mk {id : String} {r : V → List V → Hp → VK → Prop} (h : MtR X id r) : RMt X id r := by unfold RMt; exact h
theorem RSl.un {r : V → Option Int → Option Int → Hp → VK → Prop} (h : RSl X r) : SlR X r := by unfold RSl at h; exact h
theorem RSl.mk {r : V → Option Int → Option Int → Hp → VK → Prop} (h : SlR X r) : RSl X r := by unfold RSl; exact h
theorem RSet.un {r : TSet} (h : RSet X r) : PSet X r := by unfold RSet at h; exact h
theorem RSet.mk {r : TSet} (h : PSet X r) : RSet X r := by unfold RSet; exact h
theorem RIp.un {op : Operator} {r : TIp} (h : RIp X op r) : PIp X op r := by unfold RIp at h; exact h
theorem RIp.mk {op : Operator} {r : TIp} (h : PIp X op r) : RIp X op r := by unfold RIp; exact h
end
section
variable {X : Cx} {a b c e o l : Expr} {es rest : List Expr} {ta tb tc te to tl : TE} {t : TA} {pos : Pos} {tA tB' : TT}
theorem rAdd : ROp X (binaryOp .Add) rAddG := .mk op_addG
theorem rSub : ROp X (binaryOp .Sub) (rI0 fun i j => .int (i - j)) := .mk op_sub
theorem rMul : ROp X (binaryOp .Mult) (rI CMul fun i j => .int (i * j)) := .mk op_mul
theorem rMod : ROp X (binaryOp .Mod) (rI (fun _ j => 0 < j) fun i j => .int (i % j)) := .mk op_mod
theorem rPow : ROp X (binaryOp .Pow) (rI CPow fun i j => .int (i ^ j.toNat)) := .mk op_pow
theorem rNeg : RUn X (unaryOp .USub) (rU fun i => .int (-i)) := .mk un_neg
theorem rLt : ROp X (compareOp .Lt) (rI0 fun i j => .bl (decide (i < j))) := .mk op_lt
theorem rLe : ROp X (compareOp .LtE) (rI0 fun i j => .bl (decide (i ≤ j))) := .mk op_le
theorem rGt : ROp X (compareOp .Gt) (rI0 fun i j => .bl (decide (j < i))) := .mk op_gt
theorem rGe : ROp X (compareOp .GtE) (rI0 fun i j => .bl (decide (j ≤ i))) := .mk op_ge
theorem rEqq {k : Nat} {A : Around} (hr : Room k A) (hA : X.A = A := by rfl) : ROp X (compareOp .Eq) (rEqG 150) := .mk (op_eqG (by rw [hA]; exact hu_n hr))
theorem rNeq {k : Nat} {A : Around} (hr : Room k A) (hA : X.A = A := by rfl) : ROp X (compareOp .NotEq) (rNeG 150) := .mk (op_neG (by rw [hA]; exact hu_n hr))
theorem rIs : ROp X (compareOp .Is) (fun x y H Q => y = .non ∧ Q (.bl (decide (x = .non))) H) := .mk op_isN
theorem rIsNot : ROp X (compareOp .IsNot) (fun x y H Q => y = .non ∧ Q (.bl (!decide (x = .non))) H) := .mk op_notN
theorem rInn (K : PySem.W.Frag) (hK : X.K = K := by rfl) : ROp X (compareOp .In) (rIn K false) := .mk (kIn K hK)
theorem rNotInn (K : PySem.W.Frag) (hK : X.K = K := by rfl) : ROp X (compareOp .NotIn) (rIn K true) := .mk (kNotIn K hK)
theorem xIx (K : PySem.W.Frag) (hK : X.K = K := by rfl) : RIx X (rIxG K) := .mk (kIx K hK)
theorem xSl (K : PySem.W.Frag) (hK : X.K = K := by rfl) : RSl X (rSlN K) := .mk (kSl K hK)
theorem xSet : RSet X rSetL := .mk set_list
theorem fLen (K : PySem.W.Frag) (hK : X.K = K := by rfl) : RCall X (.builtin "len") (rLen K) := .mk (kLen K hK)
theorem fIsi (K : PySem.W.Frag) (hK : X.K = K := by rfl) : RCall X (.builtin "isinstance") (rIsi K) := .mk (kIsi K hK)
theorem fList (K : PySem.W.Frag) (hK : X.K = K := by rfl) : RCall X (.type "list") (rListN K) := .mk (kListC K hK)
theorem fTuple (K : PySem.W.Frag) (hK : X.K = K := by rfl) : RCall X (.type "tuple") (rTupleN K) := .mk (kTupleC K hK)
def rInt1 : List V → Hp → VK → Prop := fun xs H Q => (∃ i, xs = [.int i] ∧ Q (.int i) H) ∨ ∃ k, xs = [.bl k] ∧ Q (.int (if k then 1 else 0)) H
theorem fInt : RCall X (.type "int") rInt1 := .mk call_int1
theorem mAppend : RMt X "list.append" rAppend := .mk mt_append
theorem mExtend : RMt X "list.extend" rExtend := .mk mt_extend
theorem mClear : RMt X "list.clear" rClear := .mk mt_clear
theorem qv (i : Nat) {x : Str} {pos : Pos} (hN : X.N[i]? = some x := by rfl) (hv : Vis X.env.scope x := by first | exact Or.inl rfl | exact Or.inr (Or.inl rfl) | exact Or.inr (Or.inr rfl)) (hd : (x == ("__debug__" : Str)) = false := by decide)
    (hcd : (x == ("__classdict__" : Str)) = false := by decide) : QE X (.Name x pos) (tVar i) := .mk (pe_var hN hv hd hcd)
theorem qint {i j pos} : QE X (.Constant (.int i) j pos) (tC (.int i)) := .mk pe_int
theorem qbl {b j pos} : QE X (.Constant (.bool b) j pos) (tC (.bl b)) := .mk pe_bl
theorem qnon {j pos} : QE X (.Constant .none j pos) (tC .non) := .mk pe_non
theorem qty {x : Str} {T : String} {pos : Pos} (hg : Gl X x) (hm : X.mg x = none) (hv : bootBuiltins x = some (.type T)) (hn : x ≠ "__name__" := by decide) (hd : (x == ("__debug__" : Str)) = false := by decide) : QE X (.Name x pos) (tC (.ty T)) := .mk (pe_bltn hg hm hv rfl hn hd)
theorem qop {op : Operator} {r : R2} (ho : ROp X (binaryOp op) r) (ha : QE X a ta) (hb : QE X b tb) : QE X (.BinOp a op b pos) (tOp r ta tb) := .mk (pe_op ho.un ha.un hb.un)
theorem qun {op : UnaryOp} {r : V → Hp → VK → Prop} (ho : RUn X (unaryOp op) r) (ha : QE X a ta) : QE X (.UnaryOp op a pos) (tUn r ta) := .mk (pe_un ho.un ha.un)
theorem qcmp {op : CmpOp} {r : R2} (ho : ROp X (compareOp op) r) (ha : QE X a ta) (hb : QE X b tb) (hm : behindInMarks op b = false) : QE X (.Compare a [op] [b] pos) (tOp r ta tb) := .mk (pe_cmpR ho.un ha.un hb.un hm)
theorem qor (K : PySem.W.Frag) (ha : QE X a ta) (hb : QE X (.BoolOp .Or (b :: rest) pos) tb) (hK : X.K = K := by rfl) : QE X (.BoolOp .Or (a :: b :: rest) pos) (tOrG K ta tb) := .mk (kOr K ha.un hb.un hK)
theorem qone {op} (h : QE X a te) : QE X (.BoolOp op [a] pos) te := .mk (pe_one h.un)
theorem qif (hc : QT X c tA) (ha : QE X a ta) (hb : QE X b tb) : QE X (.IfExp c a b pos) (tIf tA ta tb) := .mk (pe_ifExp hc.un ha.un hb.un)
theorem qnil : QA X [] tNil := .mk pa_nil
theorem qcons (ha : QE X e te) (hr : QA X es t) (h : notStar e = true := by rfl) : QA X (e :: es) (tCons te t) := .mk (paC ha.un hr.un h)
theorem qtup {x1} (h : QA X es t) : QE X (.Tuple es x1 pos) (tTupN t) := .mk (pe_tupN h.un)
theorem qlst (h : QA X es t) : QE X (.List es pos) (tLstN t) := .mk (pe_lstN h.un)
theorem qdict : QE X (.Dict [] [] pos) tDictN := .mk pe_dictN
theorem qix {r : R2} (hr : RIx X r) (ha : QE X a ta) (hb : QE X b tb) (hs : PlainIx b) : QE X (.Subscript a b pos) (tOp r ta tb) := .mk (pe_ix hr.un ha.un hb.un hs)
theorem qslice {r : V → Option Int → Option Int → Hp → VK → Prop} {lo hi : Option Expr} {t1 t2 : TO} {p2 : Pos} (hr : RSl X r) (he : QE X e te) (hl : QO X lo t1) (hu : QO X hi t2) : QE X (.Subscript e (.Slice lo hi none p2) pos) (tSl r te t1 t2) := .mk (pe_slice hr.un he.un hl.un hu.un)
theorem onone : QO X none tNoPart := .mk po_none
theorem osome (h : QE X e te) : QO X (some e) (tPart te) := .mk (po_some h.un)
theorem qdget {td ty : TE} {i : Expr} {k : Nat} {A : Around} (hr : Room k A) (ho : QE X o td) (hi : QE X i ty) (hs : NoSl i) (hA : X.A = A := by rfl) : QE X (.Subscript o i pos) (tDGet td ty) := .mk (pe_dget (by rw [hA]; exact hu_of hr) ho.un hi.un hs)
theorem qF {CX : CXT} {k : Nat} {x : Str} {sp : Sp} {E : XK} {p pos : Pos} (C : Cal X.prog X.w X.K X.mg X.base CX k x sp) (hr : Room k X.A) (hx : Passes CX X E) (hg : Gl X x)
    (ha : QA X (e :: es) t) (hdb : (x == ("__debug__" : Str)) = false := by decide) (h : (e :: es).all notStar = true := by rfl) : QE X (.Call (.Name x p) (e :: es) [] pos) (tCallF sp E t) := .mk (cF C hr hx hg ha.un hdb h)
theorem qB {id : String} {r : List V → Hp → VK → Prop} {x : Str} {p pos : Pos} (hc : RCall X (.builtin id) r) (hg : Gl X x) (hm : X.mg x = none) (hv : bootBuiltins x = some (.builtin id)) (ha : QA X (e :: es) t) (hn : x ≠ "__name__" := by decide) (hdb : (x == ("__debug__" : Str)) = false := by decide)
    (h : (e :: es).all notStar = true := by rfl) : QE X (.Call (.Name x p) (e :: es) [] pos) (tCB r t) := .mk (cB hc.un hg hm hv ha.un hn hdb h)
theorem qTy {T : String} {r : List V → Hp → VK → Prop} {x : Str} {p pos : Pos} (hc : RCall X (.type T) r) (hg : Gl X x) (hm : X.mg x = none) (hv : bootBuiltins x = some (.type T)) (ha : QA X (e :: es) t) (hn : x ≠ "__name__" := by decide) (hdb : (x == ("__debug__" : Str)) = false := by decide)
    (h : (e :: es).all notStar = true := by rfl) : QE X (.Call (.Name x p) (e :: es) [] pos) (tCB r t) := .mk (cTy hc.un hg hm hv ha.un hn hdb h)
theorem qBm {name : Str} {apos cpos : Pos} {T id : String} {r : V → List V → Hp → VK → Prop} (K : PySem.W.Frag) (pa : PlainAttrs T) (slot : Slot T name id) (hty : typeOf (.builtin id) = pure (.type "method_descriptor")) (hm : RMt X id r) (ho : QE X o to) (ha : QA X (e :: es) t)
    (hbase : attributeBase o name X.env (eval o X.env) = eval o X.env := by rfl) (h : (e :: es).all notStar = true := by rfl) (hl : decide ((e :: es).length < 30) = true := by rfl)
    (hline : (apos.endLine == cpos.line) = true := by rfl) (hK : X.K = K := by rfl) : QE X (.Call (.Attribute o name apos) (e :: es) [] cpos) (tBM K T r to t) := .mk (kBm K pa slot hty hm.un ho.un ha.un hbase h hl hline hK)
theorem qBm0 {name : Str} {apos cpos : Pos} {T id : String} {r : V → List V → Hp → VK → Prop} (K : PySem.W.Frag) (pa : PlainAttrs T) (slot : Slot T name id) (hty : typeOf (.builtin id) = pure (.type "method_descriptor")) (hm : RMt X id r) (ho : QE X o to)
    (hbase : attributeBase o name X.env (eval o X.env) = eval o X.env := by rfl) (hline : (apos.endLine == cpos.line) = true := by rfl) (hK : X.K = K := by rfl) : QE X (.Call (.Attribute o name apos) [] [] cpos) (tBM0 K T r to) := .mk (kBm0 K pa slot hty hm.un ho.un hbase hline hK)
theorem tcmp {op : CmpOp} {r : R2} (ho : ROp X (compareOp op) r) (ha : QE X a ta) (hb : QE X b tb) (hm : behindInMarks op b = false) : QT X (.Compare a [op] [b] pos) (tTest (tOp r ta tb)) := .mk (pt_cmpR ho.un ha.un hb.un hm)
theorem ttru (K : PySem.W.Frag) (ha : QE X a ta) (he : ∀ whole, isTrue a X.env whole = (do let v ← whole; standAt a.pos; holding [v] (truthy v))) (hK : X.K = K := by rfl) : QT X a (tTru K ta) := .mk (kTru K ha.un he hK)
theorem tnot (ha : QT X a tA) : QT X (.UnaryOp .Not a pos) (tNot tA) := .mk (pt_not ha.un)
theorem wand1 (ha : QT X a tA) : QW X (.BoolOp .And [a] pos) tA := .mk (pw_and1 ha.un)
theorem wor1 (ha : QT X a tA) : QW X (.BoolOp .Or [a] pos) tA := .mk (pw_or1 ha.un)
theorem wand (ha : QT X a tA) (hb : QW X (.BoolOp .And (b :: rest) pos) tB') : QW X (.BoolOp .And (a :: b :: rest) pos) (tAnd tA tB') := .mk (pw_and ha.un hb.un)
theorem wor (ha : QT X a tA) (hb : QW X (.BoolOp .Or (b :: rest) pos) tB') : QW X (.BoolOp .Or (a :: b :: rest) pos) (tOr tA tB') := .mk (pw_or ha.un hb.un)
theorem QW.tst (h : QW X a tA) : QT X a tA := .mk h.un.pt
theorem gname {i : Nat} {x : Str} (hN : X.N.Nodup) (hi : X.N[i]? = some x) (hx : Loc X.env.scope x) (hf : X.fn x = true ∨ X.env.scope.names.lookup x = some .local := by first | exact .inl rfl | exact .inr rfl | assumption) : QG X (.Name x pos) (gName i) := .mk (pg_name hN hi hx hf)
theorem gsnil : QGs X [] gNil := .mk pgs_nil
theorem gscons {t : TG} {u : TGs} (h1 : QG X e t) (h2 : QGs X es u) (hs : (assignEach (e :: es) X.env).map (·.2) = assign e X.env :: (assignEach es X.env).map (·.2) := by rfl) : QGs X (e :: es) (gCons t u) := .mk (pgs_cons h1.un h2.un hs)
theorem gtup {k : Nat} {t : TGs} {n : Nat} (K : PySem.W.Frag) (hc : X.calm = true) (h : QGs X es t) (hn : (assignEach es X.env).length = n := by rfl) (hst : (assignEach es X.env).findIdx? (·.1) = none := by rfl) (hK : X.K = K := by rfl) : QG X (.Tuple es k pos) (gTup K n t) := by
  subst hK; exact .mk (pg_tup hc h.un hn hst)
theorem gsub {i : Expr} {ti : TE} {t : TSet} (ho : QE X o to) (hi : QE X i ti) (hs : RSet X t) 
    (ha : ∀ v, assign (.Subscript o i pos) X.env v = (do
      let ov ← holding [v] (eval o X.env)
      let iv ← holding [v, ov] (eval i X.env)
      standAt pos
      holding [v, ov, iv] (setItem ov iv v)
      release [v, ov, iv] []) := by intro _; rfl) : QG X (.Subscript o i pos) (gSub to ti t) := .mk (pg_sub ho.un hi.un hs.un ha)
theorem iseq {tg : Expr} (K : PySem.W.Frag) (hl : QE X l tl) (hK : X.K = K := by rfl) : QI X tg l (iSeq K tl) := .mk (kSeq K hl.un hK)
theorem irange1 {tg : Expr} {ta : TA} {p pos : Pos} (hg : Gl X "range") (hm : X.mg "range" = none) (ha : QA X [a] ta) (h : notStar a = true := by rfl) : QI X tg (.Call (.Name "range" p) [a] [] pos) (iRng1 ta) := .mk (iRange1 hg hm ha.un h)
theorem irange2 {tg : Expr} {ta : TA} {p pos : Pos} (hg : Gl X "range") (hm : X.mg "range" = none) (ha : QA X [a, b] ta) (h : notStar a = true := by rfl) (h' : notStar b = true := by rfl) : QI X tg (.Call (.Name "range" p) [a, b] [] pos) (iRng2 ta) := .mk (iRange2 hg hm ha.un h h')
theorem csnil : QTs X [] tT0 := .mk pts_nil
theorem csone (h : QT X c tA) : QTs X [c] tA := .mk (pts_one h.un)
theorem qcomp {elt target iter : Expr} {ifs : List Expr} {scope : Scope} {pos : Pos} {wi : TI} {g : TG} {tt : TT} {te : TE} {sc : Scope} {NX : List Str} (N' : List Str) (cs : List (Option Nat)) (hc : X.calm = true)
    (hi : QI X target iter wi) (hg : ∀ fp s3 H3, QG (cxC X N' scope fp s3 H3) target g) (ht : ∀ fp s3 H3, QTs (cxC X N' scope fp s3 H3) ifs tt) (he : ∀ fp s3 H3, QE (cxC X N' scope fp s3 H3) elt te)
    (hsc : X.env.scope = sc) (hN : X.N = NX) (hcs : csOk sc NX N' cs scope = true) (hs : ∀ x, foldedSetIterable iter X.env x = pure x := by intro _; rfl) :
    QE X (.ListComp elt [⟨target, iter, ifs, 0⟩] scope pos) (tComp cs wi g tt te) :=
  .mk (pe_comp N' cs hc hi.un (fun fp s3 H3 => (hg fp s3 H3).un) (fun fp s3 H3 => (ht fp s3 H3).un) (fun fp s3 H3 => (he fp s3 H3).un) hsc hN hcs hs)
variable {st : Stmt} {sts : List Stmt} {t1 t2 : TS}
theorem bnil : QSs X [] tNext := .mk pss_nil
theorem bcons (h1 : QS X st t1) (h2 : QSs X sts t2) : QSs X (st :: sts) (tSeq t1 t2) := .mk (pss_cons h1.un h2.un)
theorem bone (h1 : QS X st t1) : QSs X [st] t1 := .mk (pss_one h1.un)
theorem sexpr (he : QE X e te) (hs : swapsWith e none pos.line X.env = pure false := by rfl) : QS X (.Expr e pos) (tDrop te) := .mk (ps_expr he.un hs)
theorem sret (he : QE X e te) : QS X (.Return (some e) pos) (tRet te) := .mk (ps_ret he.un)
theorem sif {c : Expr} {a b : List Stmt} {tc : TT} (hc : QT X c tc) (ha : QSs X a t1) (hb : QSs X b t2) : QS X (.If c a b pos) (tIfS tc t1 t2) := .mk (ps_if hc.un ha.un hb.un)
theorem sset {i : Nat} {x : Str} {pos' : Pos} (hN : X.N.Nodup) (hi : X.N[i]? = some x) (hx : Loc X.env.scope x) (he : QE X e te) (hs : swapsWith e (some (.Name x pos')) pos.line X.env = pure false := by rfl) (hf : X.fn x = true ∨ X.env.scope.names.lookup x = some .local := by first | exact .inl rfl | exact .inr rfl | assumption) :
    QS X (.Assign [.Name x pos'] e pos) (tAsg te (gName i)) := .mk (ps_set hN hi hx he.un hs hf)
theorem ssetC {i : Nat} {y : Str} {py spos : Pos} {elt target iter : Expr} {ifs : List Expr} {scope : Scope} {pos : Pos} {wi : TI} {g : TG} {tt : TT} {te : TE} {sc : Scope} {NX : List Str} (N' : List Str) (cs : List (Option Nat)) (hc : X.calm = true)
    (hND : X.N.Nodup) (hiN : X.N[i]? = some y) (hy : X.env.scope.names.lookup y = some .local)
    (hi : QI X target iter wi) (hg : ∀ fp s3 H3, QG (cxC X N' scope fp s3 H3) target g) (ht : ∀ fp s3 H3, QTs (cxC X N' scope fp s3 H3) ifs tt) (he : ∀ fp s3 H3, QE (cxC X N' scope fp s3 H3) elt te)
    (hsc : X.env.scope = sc) (hN : X.N = NX) (hcs : csOk sc NX N' cs scope = true)
    (hsw : swapsWith (.ListComp elt [⟨target, iter, ifs, 0⟩] scope pos) (some (.Name y py)) spos.line X.env = pure true)
    (hs : ∀ x, foldedSetIterable iter X.env x = pure x := by intro _; rfl) :
    QS X (.Assign [.Name y py] (.ListComp elt [⟨target, iter, ifs, 0⟩] scope pos) spos) (tAsg (tComp cs wi g tt te) (gName i)) :=
  .mk (ps_setC N' cs hc hND hiN hy hi.un (fun fp s3 H3 => (hg fp s3 H3).un) (fun fp s3 H3 => (ht fp s3 H3).un) (fun fp s3 H3 => (he fp s3 H3).un) hsc hN hcs hsw hs)
theorem sasg {tg : Expr} {g : TG} (he : QE X e te) (hg : QG X tg g) (hs : swapsWithSole [tg] e pos.line X.env = pure false := by rfl) (hw : swappedStores [tg] e X.env = pure none := by rfl)
    (h1 : (assignEach [tg] X.env).map (·.2) = [assign tg X.env] := by rfl) : QS X (.Assign [tg] e pos) (tAsg te g) := .mk (ps_asg he.un hg.un hs hw h1)
theorem sdput {i value : Expr} {td ty tv : TE} {pos' : Pos} {k : Nat} {A : Around} (hr : Room k A) (ho : QE X o td) (hi : QE X i ty) (hv : QE X value tv) (hs : swapsWith value (some (.Subscript o i pos')) pos.line X.env = pure false) (hA : X.A = A := by rfl) :
    QS X (.Assign [.Subscript o i pos'] value pos) (sDPut td ty tv) := .mk (ps_dput (by rw [hA]; exact hu_of hr) ho.un hi.un hv.un hs)
theorem sfor {tg iter : Expr} {body : List Stmt} {wi : TI} {g : TG} {tb : TS} (hp : PassesOwn (model X.prog X.w) X.A X.env X.xe) (hc : X.calm = true) (hi : QI X tg iter wi) (hg : QG X tg g) (hb : QSs X body tb)
    (hs : ∀ x, foldedSetIterable iter X.env x = pure x := by intro _; rfl) : QS X (.For tg iter body [] pos) (tFor wi g tb) := .mk (ps_for hp hc hi.un hg.un hb.un hs)
theorem swhile {c : Expr} {body : List Stmt} {tc : TT} {tb : TS} (hp : PassesOwn (model X.prog X.w) X.A X.env X.xe) (hc : QT X c tc) (hb : QSs X body tb) : QS X (.While c body [] pos) (tWhile tc tb) := .mk (ps_while hp hc.un hb.un)
end
theorem split {X : Cx} {body : List Stmt} {D : Ends} {σ : St} {H : Hp} (n : Nat) (M : St → Hp → Prop) (h2 : ∃ t, QSs X (body.drop n) t ∧ ∀ σ' H', M σ' H' → t D σ' H')
    (h1 : ∀ u, QSs X (body.drop n) u → (∀ σ' H', M σ' H' → u D σ' H') → ∃ t, QSs X body t ∧ t D σ H) : ∃ t, QSs X body t ∧ t D σ H := by
  obtain ⟨t, p, q⟩ := h2
  exact h1 t p q
theorem Fd.cal {P : Program} {w : World} {K : PySem.W.Frag} {mg : Str → Option Value} {base : Heap} {x : Str} {st : Stmt} {f : Addr} {N ps : List Str} {k : Nat} {sp : Sp} (F : Fd K mg x st f) (S : FnScope N ps (defScope st))
    (hb : ∀ (kV doc pm : Value) (an : Option Addr) (cdv ct : Value) (us : List Value), us.length = ps.length → bindArgs (PySem.W.fnOf x x (defArgs st) (defBody st) (defScope st) .none kV doc pm an cdv ct) ⟨us, []⟩ = pure (ps.zip us))
    (len : ∀ vs H Q E, sp vs H Q E → vs.length = ps.length)
    (hbody : ∀ (cdv : Value) (A : Around) (outer : List Env) (s : Shared) (H : Hp) (vs : List V) (Q : VK) (E : XK), Room k (A.deeper (envOfC x (defScope st) s.heap.objs.size f cdv)) → sp vs H Q E →
      ∃ t, QSs (cxOf CX0 P w K mg base N x (defScope st) f cdv A outer s H E).nox (defBody st) t ∧ t { nx := fun _ H' => Q .non H', rt := Q } (start N vs) H) : Cal P w K mg base CX0 (k + 1) x sp := by
  obtain ⟨⟨fd, F1⟩, F2⟩ := F
  refine ⟨f, fd, ps, F1.ok S len (fun cdv A outer s H vs Q E hr h => ?_), F2, F1.kp, F1.binds hb⟩
  obtain ⟨t, p, q⟩ := hbody cdv A outer s H vs Q E hr h
  exact ⟨t, p.un, q⟩
end L3
namespace L3
open PySem L2
def D.ty : D → String
  | .non => "NoneType"
  | .bl _ => "bool"
  | .int _ => "int"
  | .str _ => "str"
  | .tup _ => "tuple"
  | .lst _ => "list"
  | .emp => "dict"
theorem Rep.ty {K : PySem.W.Frag} {H : Hp} {v : V} {e : D} (h : Rep H v e) : TyOf K H v (.type e.ty) := by
  cases h with
  | non => exact .non
  | bl b => exact .bl b
  | int i => exact .int i
  | str x => exact .str x
  | tup e _ => exact .tup e
  | lst e _ => exact .lst e
  | emp e => exact .dK e
def D.isTup : D → Bool
  | .tup _ => true
  | _ => false
def D.isLst : D → Bool
  | .lst _ => true
  | _ => false
def D.isBl : D → Bool
  | .bl _ => true
  | _ => false
theorem kit_tuple (K : PySem.W.Frag) : ∀ e : D, PySem.W.kitOne K (.type e.ty) (.type "tuple") = some e.isTup
  | .non => by kernel_rfl
  | .bl _ => by kernel_rfl
  | .int _ => by kernel_rfl
  | .str _ => by kernel_rfl
  | .tup _ => by kernel_rfl
  | .lst _ => by kernel_rfl
  | .emp => by kernel_rfl
theorem kit_list (K : PySem.W.Frag) : ∀ e : D, PySem.W.kitOne K (.type e.ty) (.type "list") = some e.isLst
  | .non => by kernel_rfl
  | .bl _ => by kernel_rfl
  | .int _ => by kernel_rfl
  | .str _ => by kernel_rfl
  | .tup _ => by kernel_rfl
  | .lst _ => by kernel_rfl
  | .emp => by kernel_rfl
theorem kit_bool (K : PySem.W.Frag) : ∀ e : D, PySem.W.kitOne K (.type e.ty) (.type "bool") = some e.isBl
  | .non => by kernel_rfl
  | .bl _ => by kernel_rfl
  | .int _ => by kernel_rfl
  | .str _ => by kernel_rfl
  | .tup _ => by kernel_rfl
  | .lst _ => by kernel_rfl
  | .emp => by kernel_rfl
end L3
namespace L3
open PySem L2
end L3
namespace L3
open PySem L2 PyProof.Rows
theorem okQ {P : Program} {w : World} {K : PySem.W.Frag} {mg : Str → Option Value} {base : Heap} {x : Str} {st : Stmt} {f : Addr} {fd : FuncData} {N ps : List Str} {k : Nat} {sp : Sp} (F : Fun K x x st f fd) (S : FnScope N ps (defScope st))
    (len : ∀ vs H Q E, sp vs H Q E → vs.length = ps.length)
    (hbody : ∀ (cdv : Value) (A : Around) (outer : List Env) (s : Shared) (H : Hp) (vs : List V) (Q : VK) (E : XK), Room k (A.deeper (envOfC x (defScope st) s.heap.objs.size f cdv)) → sp vs H Q E →
      ∃ t, QSs (cxOf CX0 P w K mg base N x (defScope st) f cdv A outer s H E).nox (defBody st) t ∧ t { nx := fun _ H' => Q .non H', rt := Q } (start N vs) H) : FnOk P w K mg base CX0 (k + 1) f fd ps sp := by
  refine F.ok S len (fun cdv A outer s H vs Q E hr h => ?_)
  obtain ⟨t, p, q⟩ := hbody cdv A outer s H vs Q E hr h
  exact ⟨t, p.un, q⟩
end L3
namespace L3
open PySem PySem.Spec PyProof.Rows L2
section
variable {X : Cx}
def CDivB (i j : Int) : Prop := 0 < j ∧ j < 2 ^ 1000
theorem op_fdivB : OpR X (binaryOp .FloorDiv) (rI CDivB fun i j => .int (i / j)) := opI fun i j _ _ _ _ _ hc q => by
  refine floordiv_int (by have := hc.1; omega) (by rw [Int.fdiv_eq_ediv_of_nonneg _ (Int.le_of_lt hc.1)]; exact q) (.inl (PyProof.noPylong_of_log2 ?_))
  by_cases h0 : j.natAbs = 0
  · rw [h0]; decide +kernel
  · have : j.natAbs < 2 ^ 1000 := by have := hc.1; have := hc.2; omega
    exact Nat.lt_trans ((Nat.log2_lt h0).mpr this) (by decide)
theorem rDivB : ROp X (binaryOp .FloorDiv) (rI CDivB fun i j => .int (i / j)) := .mk op_fdivB
def rSumL (K : PySem.W.Frag) : List V → Hp → VK → Prop := fun xs H Q => ∃ (p : Addr) (ns : List Int), xs = [.ref p] ∧ SqL K H p (ns.map V.int) ∧ Q (.int ns.sum) H
theorem call_sumL (hc : X.calm = true) : CallR X (.builtin "sum") (rSumL X.K) := by
  intro pins s σ H xs us Q I rv h
  obtain ⟨p, ns, rfl, hp, q⟩ := h
  obtain ⟨u, rfl, ru⟩ := vals1 rv
  cases ru
  obtain ⟨its, r, pl, hz⟩ := I.list hp
  have hi := intsAre_of r
  obtain ⟨ys, e⟩ := hi.allInts.items
  have hns : ns = ys.toList.map (·.1) := by rw [← hi.numsOf, ← nums_intItems, ← e]
  have hl := pl.isList
  rw [e] at hl
  refine sum_intListG (I.ok.hd hc) hl fun h' tk t' hk => ?_
  refine ⟨.int ns.sum, H, I.kept hk, ⟨t', ?_⟩, q⟩
  rw [preSum_eq, hns, List.take_of_length_le (by rw [List.length_map, Array.length_toList]; exact Nat.le_refl _)]
def rAllB (K : PySem.W.Frag) : List V → Hp → VK → Prop := fun xs H Q => ∃ (p : Addr) (bs : List Bool), xs = [.ref p] ∧ SqL K H p (bs.map V.bl) ∧ Q (.bl (bs.all id)) H
theorem all_range : ∀ (bs : List Bool), (List.range bs.length).all (fun i => bs.getD i true) = bs.all id
  | [] => rfl
  | b :: r => by
    rw [List.length_cons, List.range_succ_eq_map, List.all_cons, List.all_map, List.all_cons]
    have := all_range r
    congr 1
theorem call_allB (hc : X.calm = true) : CallR X (.builtin "all") (rAllB X.K) := by
  intro pins s σ H xs us Q I rv h
  obtain ⟨p, bs, rfl, hp, q⟩ := h
  obtain ⟨u, rfl, ru⟩ := vals1 rv
  cases ru
  obtain ⟨its, r, pl, hz⟩ := I.list hp
  have hlen := r.length
  rw [List.length_map] at hlen
  have hlt : p < s.heap.objs.size := by obtain ⟨_, e, _⟩ := pl.isList; exact Heap.lt_size e
  refine call_all_walk (wpAny_pyIter_list pl.isList ?_)
  refine ⟨s.heap.objs.size, _, _, _, _, _, fun i => bs.getD i true, rfl, Walks.list (A := X.A.in1) (I.ok.hd hc) _ p (Nat.ne_of_lt hlt) its.toArray, ⟨⟨_, Heap.get?_push_size _ rfl, rfl, rfl⟩, pl.isList.push _⟩, ?_, fun h' tk hk => ?_⟩
  · intro i v s' Q' E' hP hQ
    have hP : its[i]? = some v := by simpa using hP
    have hi : i < its.length := (List.getElem?_eq_some_iff.mp hP).1
    have e1 : (bs.map V.bl)[i]? = some (V.bl (bs[i]'(by omega))) := by
      rw [List.getElem?_map, List.getElem?_eq_getElem (by omega)]; rfl
    obtain ⟨u, hu, ru⟩ := r.get e1
    rw [hP] at hu
    cases hu
    cases (show v = Value.bool _ from ru)
    refine wpAny_truthy_bool ?_
    have e2 : bs.getD i true = bs[i]'(by omega) := by rw [List.getD_eq_getElem?_getD, List.getElem?_eq_getElem (by omega)]; rfl
    rw [← e2]; exact hQ
  · refine ⟨.bl (bs.all id), H, ?_, ?_, q⟩
    · exact I.kept (t' := tk) fun b o e => hk b o (by simp; exact Nat.ne_of_lt (Heap.lt_size e)) (Heap.get?_push_of_some _ e)
    · show Value.bool _ = Value.bool _
      rw [List.size_toArray, ← hlen, all_range]
theorem fSum (K : PySem.W.Frag) (hc : X.calm = true := by rfl) (hK : X.K = K := by rfl) : RCall X (.builtin "sum") (rSumL K) := by subst hK; exact .mk (call_sumL hc)
theorem fAll (K : PySem.W.Frag) (hc : X.calm = true := by rfl) (hK : X.K = K := by rfl) : RCall X (.builtin "all") (rAllB K) := by subst hK; exact .mk (call_allB hc)
theorem length_merge : ∀ (more kvs : List (Key × V)), (mergeK kvs more).length ≤ kvs.length + more.length
  | [], kvs => by simp [mergeK]
  | p :: r, kvs => by
    have h1 := length_merge r (putK kvs p.1 p.2)
    have h2 := length_putK kvs p.1 p.2
    show (mergeK (putK kvs p.1 p.2) r).length ≤ _
    rw [List.length_cons]; omega
end
end L3
namespace HT
open PySem PyProof.Rows
section
open PySem.SeqAt
open PySem.AutoSeq1 (wpAny_loadPart')
open PySem.MeetsSeq PySem.MeetsSeq2 PySem.MeetsSeq3
end
section
variable {prog : Program} {w : World} {A : Around} {E : Value → Shared → Prop} {s : Shared}
end
end HT
namespace L3
open PySem PySem.Spec PyProof.Rows L2
section
variable {X : Cx}
theorem vals_of_ints : ∀ {us : List Value} {ns : List Int}, IntsAre us ns → Vals (ns.map V.int) us
  | _, _, .nil => .nil
  | _, _, .cons n t r => .cons ⟨t, rfl⟩ (vals_of_ints r)
def rSortL (K : PySem.W.Frag) : List V → Hp → VK → Prop := fun xs H Q => ∃ (p : Addr) (ns : List Int), xs = [.ref p] ∧ SqL K H p (ns.map V.int) ∧ ns.length < 64 ∧
  ∀ (q : Addr) (H' : Hp) (ns' : List Int), H q = none → Same H H' → H' q = some (.lst (ns'.map V.int)) → ns'.Perm ns → ns'.Pairwise (· ≤ ·) → Q (.ref q) H'
theorem call_sortL : CallR X (.builtin "sorted") (rSortL X.K) := by
  intro pins s σ H xs us Q I rv h
  obtain ⟨p, ns, rfl, hp, hn, q⟩ := h
  obtain ⟨u, rfl, ru⟩ := vals1 rv
  cases ru
  obtain ⟨its, r, pl, hz⟩ := I.list hp
  have hi := intsAre_of r
  have hlen := r.length
  rw [List.length_map] at hlen
  refine sorted_ints pl.isList hi (by omega) fun out ns' a1 a2 a3 => ?_
  obtain ⟨e, he⟩ := sortedAll_at s.heap its out
  have hl' : ns'.length = ns.length := a2.length_eq
  have hf : H (s.heap.objs.size + 1) = none := I.hok.fresh (Nat.le_succ _)
  refine ⟨.ref (s.heap.objs.size + 1), _, I.laid (t' := s.toks) (o := .lst (ns'.map V.int)) (fun b ob q => sortedAll_old q) (Nat.le_succ _) ⟨by rw [List.length_map]; exact Nat.le_of_lt (Nat.lt_of_lt_of_le (by omega : ns'.length < 64) (by decide)), out.toList, e, vals_of_ints a1, he⟩, rfl, q _ _ ns' hf (same_new hf) upd_same a2 a3⟩
theorem fSort (K : PySem.W.Frag) (hK : X.K = K := by rfl) : RCall X (.builtin "sorted") (rSortL K) := by subst hK; exact .mk call_sortL
end
end L3
namespace HT
open PySem PyProof.Rows
theorem getAttrQ_miss_list {prog : Program} {w : World} {A : Around} {E : Value → Shared → Prop} {s : Shared} {a : Addr} {xs : Array Value} {k : Nat} {sl : Array (Option Value)} {name : Str} {Q : Option Value → Shared → Prop}
    (hx : s.heap.get? a = some { cls := .type "list", dict := none, data := .seq xs k, slots := sl }) (hmiss : typeLookup (.type "list") name = pure none) (hname : (["__module__", "__name__", "__qualname__", "__doc__", "__annotations__"] : List Str).contains name = false) (hA : A.handled = none)
    (h : ∀ h' tk, (∀ b o, s.heap.get? b = some o → h'.get? b = some o) → Q none { s with heap := h', toks := tk }) (hsz : name.length + 100 ≤ sizeLine := by size_fits) :
    wpAny (model prog w) A (getAttr? (.ref a) name) Q E s := by
  obtain ⟨hp, g, d, tk, os⟩ := s
  have hT : ∀ tk', (⟨hp, g, d, tk', os⟩ : Shared).TypeIs (.ref a) "list" := fun _ => ⟨_, hx, rfl⟩
  have f1 := sub_AttributeError
  have f3 := PySem.F.slot_list_getattribute.lookup
  have f4 := PySem.F.slot_list_getattribute.bind (.ref a)
  have f5 := am_list_getattr_none
  unfold getAttr? getAttrBy? getAttrBy
  repeat (any_goals (first | assumption | exact hT _ | ((with_reducible show wpAny _ _ (call (Value.builtin "list.__getattribute__") _ _) _ _ _); refine call_meets PySem.F.slot_list_getattribute (hT _) am_entry_list_getattribute (PySem.F.args_list_getattribute_2 _ _) (meets_getattribute_miss_list a xs k _ name _ hmiss hname hsz) ⟨hx, hA, fun h' tk' e hx' => ?_⟩) | wp_step))
  obtain ⟨t', u', he⟩ := hx'.there
  show wpAny _ _ (getattributeRaised _ _ _ _ _ _ _) _ _ _
  unfold getattributeRaised
  repeat (any_goals (first | assumption | wp_step))
  exact h _ _ hx'.keeps
theorem entry_dul : entryFor table "dict.update.loop" = some Builtin.«dict.update.loop» := entryFor_of_tree (by kernel_rfl)
theorem plain_dul : plainId "dict.update.loop" = true := by decide +kernel
section
variable {prog : Program} {w : World} {A : Around} {R : Result → Shared → Prop} {I : Addr} {fp wr : List Addr} {n : Nat} {P : Nat → Value → Prop} {St : Nat → Heap → Prop} {K : Type} [DecidableEq K] {knd : KeyKind prog w K}
def accP (ps : Nat → K × Value) : Nat → List (K × Value)
  | 0 => []
  | i + 1 => stored (accP ps i) (ps i).1 (ps i).2
theorem stored_len (kvs : List (K × Value)) (k : K) (v : Value) : (stored kvs k v).length ≤ kvs.length + 1 := by
  induction kvs with
  | nil => simp [stored]
  | cons p r ih => unfold stored; split <;> simp_all
theorem accP_len (ps : Nat → K × Value) : ∀ i, (accP ps i).length ≤ i
  | 0 => Nat.le_refl _
  | i + 1 => by have := accP_len ps i; have := stored_len (accP ps i) (ps i).1 (ps i).2; rw [accP]; omega
theorem code_dul (W : Walks prog w A.in1 I fp wr n P St) (S : Addr) (hSf : S ∉ fp) (T : Nat → Addr) (ps : Nat → K × Value) (hT : ∀ i v, i < n → P i v → v = .ref (T i)) (hTn : ∀ i, i < n → T i ∉ S :: wr) (hb : n ≤ sizeLine) :
    ∀ (k i : Nat) (c : Int) (s : Shared), n - i = k → i ≤ n → St i s.heap → (∀ j, j < n → ∃ key, s.heap.IsTuple (T j) #[key, (ps j).2] ∧ knd.is (ps j).1 key = true) → s.heap.DictOf knd S (accP ps i) →
      (∀ h' tk, (∀ b o, b ∉ S :: wr → s.heap.get? b = some o → h'.get? b = some o) → h'.DictOf knd S (accP ps n) → R (.ok (.ret .none)) { s with heap := h', toks := tk }) →
      codeAny (model prog w) A (.builtin "dict.update.loop" ⟨[.ref S, .ref I, rawInt c, .none], []⟩) R s := by
  have hSw : S ∉ wr := fun h => hSf (W.sub _ h)
  intro k
  induction k with
  | zero =>
    intro i c s hk hi hst hp hS hR
    have hin : i = n := by omega
    subst hin
    refine codeAny_builtin entry_dul ?_
    rw [Around.under_plainId plain_dul _]
    show wpAny _ A.in1 (pyNext (.ref I) >>= _) _ _ s
    refine wpAny_bind (W.done s _ _ hst fun h' tk hm => ?_)
    show wpAny _ A.in1 (Builtin.Dict.addKeywords S [] >>= _) _ _ _
    refine wpAny_bind (wpAny_pure (wpAny_pure (hR h' tk (fun b o hb e => hm b o (fun z => hb (List.mem_cons_of_mem _ z)) e) ?_)))
    exact hS.at fun o e => hm S o hSw e
  | succ k ih =>
    intro i c s hk hi hst hp hS hR
    have hlt : i < n := by omega
    refine codeAny_builtin entry_dul ?_
    rw [Around.under_plainId plain_dul _]
    show wpAny _ A.in1 (pyNext (.ref I) >>= _) _ _ s
    refine wpAny_bind (W.item i s _ _ hlt hst fun v h' tk hP hst' hm => ?_)
    cases hT i v hlt hP
    have hm' : ∀ j, j < n → ∃ key, h'.IsTuple (T j) #[key, (ps j).2] ∧ knd.is (ps j).1 key = true := fun j hj => by
      obtain ⟨key, ⟨o, ho, r⟩, hkey⟩ := hp j hj
      exact ⟨key, ⟨o, hm _ _ (fun z => hTn j hj (List.mem_cons_of_mem _ z)) ho, r⟩, hkey⟩
    obtain ⟨key, ⟨o, ho, hc, m, hd⟩, hkey⟩ := hm' i hlt
    have hS' : h'.DictOf knd S (accP ps i) := hS.at fun o e => hm S o hSw e
    have hty : Shared.TypeIs { s with heap := h', toks := tk } (.ref (T i)) "tuple" := ⟨o, ho, hc⟩
    refine wpAny_bind (wpAny_holding (wpAny_bind (wpAny_tryCatch ?_)))
    unfold Builtin.Dict.pairItems
    refine wpAny_bind (wpAny_typeOf hty ?_)
    rw [if_pos (by decide)]
    refine wpAny_bind (wpAny_seqItems ho hd ?_)
    refine wpAny_pure ?_
    have hroom : (accP ps i).length ≤ sizeLine := by have := accP_len ps i; omega
    refine wpAny_holding (wpAny_dictSet_pairs hkey hS' (fun h2 hd2 hsb => ?_) hroom)
    have hTS : ∀ j, j < n → T j ≠ S := fun j hj z => hTn j hj (by rw [z]; exact List.mem_cons_self)
    refine wpAny_pure ⟨plainId_quiet plain_dul _, ih (i + 1) (c + 1) _ (by omega) hlt (W.frame _ h' _ hst' fun b hb o e => ?_) (fun j hj => ?_) hd2 fun h3 tk3 hm3 hd3 => ?_⟩
    · rw [hsb.2 b (fun z => hSf (by rw [← z]; exact hb))]; exact e
    · obtain ⟨key, t, hk'⟩ := hm' j hj
      exact ⟨key, t.at fun o e => by rw [hsb.2 _ (hTS j hj)]; exact e, hk'⟩
    · refine hR h3 tk3 (fun b o hb e => ?_) hd3
      refine hm3 b o hb ?_
      rw [hsb.2 b (fun z => hb (by rw [z]; exact List.mem_cons_self))]
      exact hm b o (fun z => hb (List.mem_cons_of_mem _ z)) e
end
section
variable {prog : Program} {w : World} {A : Around} {E : Value → Shared → Prop} {s : Shared} {K : Type} [DecidableEq K] {knd : KeyKind prog w K}
theorem miss_keys_list : typeLookup (.type "list") "keys" = pure none := am_miss_of_fast (by kernel_rfl)
theorem call_dict_pairs {l : Addr} {vs : List Value} {k : Nat} {sl : Array (Option Value)} {T : Nat → Addr} {ps : Nat → K × Value} {Q : Value → Shared → Prop} (hh : A.handled = none) (hl : s.heap.get? l = some { cls := .type "list", dict := none, data := .seq vs.toArray k, slots := sl })
    (hT : ∀ (i : Nat) (v : Value), vs[i]? = some v → v = .ref (T i)) (hp : ∀ j, j < vs.length → ∃ key, s.heap.IsTuple (T j) #[key, (ps j).2] ∧ knd.is (ps j).1 key = true) (hb : vs.length ≤ sizeLine)
    (h : ∀ h' tk, (∀ b o, s.heap.get? b = some o → h'.get? b = some o) → h'.DictOf knd s.heap.objs.size (accP ps vs.length) → Q (.ref s.heap.objs.size) { s with heap := h', toks := tk }) :
    wpAny (model prog w) A (call (.type "dict") [.ref l]) Q E s := by
  refine callType_codes (Q₁ := fun (obj : Value) (s₁ : Shared) => obj = Value.ref s.heap.objs.size ∧ s₁ = { s with heap := s.heap.push { cls := .type "dict", data := .dict #[] } }) PySem.F.kt_called_dict (PySem.F.kt_typeCall_dict_1 _) PySem.F.entry_dict_init (kt_code_dict_new _ ⟨rfl, rfl⟩) ?_
  rintro obj s₁ ⟨rfl, rfl⟩
  have hnew : (s.heap.push { cls := .type "dict", data := .dict #[] }).DictOf knd s.heap.objs.size [] := Heap.DictOf.new s.heap
  have hl' : (s.heap.push { cls := .type "dict", data := .dict #[] }).get? l = some { cls := .type "list", dict := none, data := .seq vs.toArray k, slots := sl } := Heap.get?_push_of_some _ hl
  have hty : Shared.TypeIs { s with heap := s.heap.push { cls := .type "dict", data := .dict #[] } } (.ref l) "list" := ⟨_, hl', rfl⟩
  refine ⟨hnew.typeIs, PySem.F.args_dict_init_2 _ _, ?_⟩
  unfold Builtin.«dict.__init__»
  refine wpAny_bind ?_
  unfold Builtin.Dict.selfAndRest
  refine wpAny_bind (wpAny_notOrdered_dict hnew.typeIs ?_)
  show wpAny _ _ (pure (s.heap.objs.size, [Value.ref l])) _ _ _
  refine wpAny_pure ?_
  show wpAny _ _ (Builtin.Dict.updateFrom "dict.__init__" s.heap.objs.size (.ref l) [] .none) _ _ _
  unfold Builtin.Dict.updateFrom
  refine wpAny_bind (wpAny_typeOf hty ?_)
  rw [if_pos (by decide)]
  refine wpAny_bind (getAttrQ_miss_list hl' miss_keys_list (by decide) (by simp [hh]) (fun h2 tk2 k2 => ?_))
  have hl2 : h2.IsList l vs.toArray := ⟨_, k2 _ _ hl', rfl, k, rfl⟩
  simp only [Option.isNone_none, if_true]
  refine wpAny_bind (wpAny_rule ?_)
  refine wpAny_bind (wpAny_pyIter_list hl2 ?_)
  have hlt : l < s.heap.objs.size := Heap.lt_size hl
  have hSz : (s.heap.push { cls := .type "dict", data := .dict #[] }).get? s.heap.objs.size = some { cls := .type "dict", data := .dict #[] } := Heap.get?_push_size _ rfl
  have hS2 : s.heap.objs.size < h2.objs.size := Heap.lt_size (k2 _ _ hSz)
  have hTt : ∀ j, j < vs.length → T j < s.heap.objs.size := fun j hj => by
    obtain ⟨key, ⟨o, ho, _⟩, _⟩ := hp j hj
    exact Heap.lt_size ho
  refine wpAny_pure ⟨plainId_quiet plain_dul _, code_dul (knd := knd) (n := vs.toArray.size) (Walks.list (by simp [hh]) h2.objs.size l (Nat.ne_of_lt (Nat.lt_trans hlt hS2)) vs.toArray) s.heap.objs.size ?_ T ps ?_ ?_ (by rw [List.size_toArray]; exact hb) _ 0 0 _ rfl (Nat.zero_le _) ?_ ?_ ?_ ?_⟩
  · simp only [List.mem_cons, List.not_mem_nil, or_false, not_or]; exact ⟨Nat.ne_of_lt hS2, Nat.ne_of_gt hlt⟩
  · intro i v _ hv
    exact hT i v (by simpa using hv)
  · intro i hi
    rw [List.size_toArray] at hi
    have := hTt i hi
    simp only [List.mem_cons, List.not_mem_nil, or_false, not_or]; exact ⟨Nat.ne_of_lt this, Nat.ne_of_lt (Nat.lt_trans this hS2)⟩
  · exact ⟨⟨_, Heap.get?_push_size _ rfl, rfl, rfl⟩, hl2.push _⟩
  · intro j hj
    rw [List.size_toArray] at hj
    obtain ⟨key, t, hk⟩ := hp j hj
    exact ⟨key, t.at fun o e => Heap.get?_push_of_some _ (k2 _ _ (Heap.get?_push_of_some _ e)), hk⟩
  · exact (hnew.at fun o e => k2 _ _ e).at fun o e => Heap.get?_push_of_some _ e
  · intro h3 tk3 hm3 hd3
    rw [List.size_toArray] at hd3
    refine ⟨rfl, h h3 tk3 (fun b o e => ?_) hd3⟩
    have hbl := Heap.lt_size e
    refine hm3 b o ?_ (Heap.get?_push_of_some _ (k2 _ _ (Heap.get?_push_of_some _ e)))
    simp only [List.mem_cons, List.not_mem_nil, or_false, not_or]; exact ⟨Nat.ne_of_lt hbl, Nat.ne_of_lt (Nat.lt_trans hbl hS2)⟩
end
end HT
namespace L3
open PySem PySem.Spec PyProof.Rows L2
section
variable {X : Cx}
theorem accP_eq {K : Type} [DecidableEq K] (d : K × Value) (us : List (K × Value)) : ∀ i, i ≤ us.length → HT.accP (fun j => us.getD j d) i = (us.take i).foldl (fun a p => stored a p.1 p.2) []
  | 0, _ => by simp [HT.accP]
  | i + 1, h => by
    have hi : us[i]? = some us[i] := List.getElem?_eq_getElem (by omega)
    rw [HT.accP, accP_eq d us i (by omega), List.take_add_one, hi, List.foldl_append]
    simp [List.getD_eq_getElem?_getD, hi]
theorem kv_fold : ∀ {prs : List (Key × V)} {us : List (Key × Value)}, KV prs us → ∀ {kvs : List (Key × V)} {vs : List (Key × Value)}, KV kvs vs → KV (mergeK kvs prs) (us.foldl (fun a p => stored a p.1 p.2) vs) := by
  intro prs us r
  unfold KV at r
  induction r with
  | nil => intro kvs vs h; exact h
  | @cons a b l₁ l₂ hk hr ih =>
    intro kvs vs h
    obtain ⟨k, v⟩ := a
    obtain ⟨k', u⟩ := b
    obtain ⟨rfl, hv⟩ := hk
    exact ih (h.put _ hv)
theorem pick_pairs {P : Program} {w : World} {H : Hp} {h : Heap} (ok : HOk P w H h) : ∀ (bs : List Addr) (prs : List (Key × V)), bs.length = prs.length → (∀ (j : Nat) b pr, bs[j]? = some b → prs[j]? = some pr → H b = some (.tup [kV pr.1, pr.2])) →
    ∃ us : List (Key × Value), KV prs us ∧ ∀ (j : Nat) b u, bs[j]? = some b → us[j]? = some u → ∃ key, h.IsTuple b #[key, u.2] ∧ (mixKind P w).is u.1 key = true := by
  intro bs
  induction bs with
  | nil =>
    intro prs hl hp
    cases prs with
    | nil => exact ⟨[], .nil, fun j b u e _ => by simp at e⟩
    | cons _ _ => cases hl
  | cons b bs ih =>
   intro prs hl hp
   cases prs with
   | nil => cases hl
   | cons pr prs =>
    obtain ⟨us, hk, hu⟩ := ih prs (by simpa using hl) (fun j b pr e1 e2 => hp (j + 1) b pr (by simpa using e1) (by simpa using e2))
    obtain ⟨_, its, r, t⟩ := ok b _ (hp 0 b pr rfl rfl)
    cases r with
    | cons r1 r =>
      cases r with
      | cons r2 r =>
        cases r
        refine ⟨(pr.1, _) :: us, .cons ⟨rfl, r2⟩ hk, fun j c u e1 e2 => ?_⟩
        cases j with
        | zero =>
          simp at e1 e2
          subst e1 e2
          exact ⟨_, IsTup.isT t, kV_is r1⟩
        | succ j => exact hu j c u (by simpa using e1) (by simpa using e2)
def rDictP (K : PySem.W.Frag) : List V → Hp → VK → Prop := fun xs H Q => ∃ (p : Addr) (bs : List Addr) (prs : List (Key × V)), xs = [.ref p] ∧ SqL K H p (bs.map V.ref) ∧ bs.length = prs.length ∧
  (∀ (j : Nat) b pr, bs[j]? = some b → prs[j]? = some pr → H b = some (.tup [kV pr.1, pr.2])) ∧ New H (.dK (mergeK [] prs)) Q
theorem vals_refs : ∀ {bs : List Addr} {us : List Value}, Vals (bs.map V.ref) us → us = bs.map Value.ref
  | [], _, .nil => rfl
  | b :: bs, _, .cons r1 r => by
    cases (show _ = Value.ref b from r1)
    rw [vals_refs r]; rfl
theorem call_dictP (hc : X.calm = true) : CallR X (.type "dict") (rDictP X.K) := by
  intro pins s σ H xs us Q I rv h
  obtain ⟨p, bs, prs, rfl, hp, hl, hb, q⟩ := h
  obtain ⟨u, rfl, ru⟩ := vals1 rv
  cases ru
  obtain ⟨its, r, pl, hz⟩ := I.list hp
  have hits := vals_refs r
  subst hits
  obtain ⟨us, hk, hu⟩ := pick_pairs I.hok bs prs hl hb
  have hul : us.length = bs.length := by
    have : ∀ {a : List (Key × V)} {b : List (Key × Value)}, KV a b → b.length = a.length := fun h => by
      unfold KV at h
      induction h with
      | nil => rfl
      | cons _ _ ih => simp [ih]
    rw [this hk, hl]
  rw [List.length_map] at hz
  obtain ⟨o, n, ho, h1, h2, h3⟩ := pl
  obtain ⟨oc, od, odt, os⟩ := o
  simp only at h1 h2 h3
  subst h1 h2 h3
  refine HT.call_dict_pairs (knd := mixKind X.prog X.w) (T := fun j => bs.getD j 0) (ps := fun j => us.getD j (Sum.inl 0, Value.none)) (I.ok.hd hc) ho (fun i v hv => ?_) (fun j hj => ?_) (by rw [List.length_map]; exact hz) (fun h' tk hkp hd => ?_)
  · rw [List.getElem?_map] at hv
    obtain ⟨b, hb', rfl⟩ := Option.map_eq_some_iff.mp hv
    simp [List.getD_eq_getElem?_getD, hb']
  · rw [List.length_map] at hj
    have e1 : bs[j]? = some bs[j] := List.getElem?_eq_getElem hj
    have e2 : us[j]? = some (us[j]'(by omega)) := List.getElem?_eq_getElem (by omega)
    have := hu j _ _ e1 e2
    simpa [List.getD_eq_getElem?_getD, e1, e2] using this
  · rw [List.length_map, ← hul, accP_eq _ us us.length (Nat.le_refl _), List.take_length] at hd
    have hml := length_merge prs []
    rw [List.length_nil, Nat.zero_add, ← hl] at hml
    have hbig := I.big
    refine ⟨.ref s.heap.objs.size, _, I.laid (t' := tk) (o := .dK (mergeK [] prs)) hkp (Nat.le_refl _) (dk_new (Nat.le_trans hml hz) (by simpa using Nat.ne_of_gt hbig) (kv_fold hk .nil) hd), rfl, q.at I.fresh⟩
theorem fDictP (K : PySem.W.Frag) (hc : X.calm = true := by rfl) (hK : X.K = K := by rfl) : RCall X (.type "dict") (rDictP K) := by subst hK; exact .mk (call_dictP hc)
end
end L3
namespace L3
open PySem PySem.Spec PyProof.Rows L2
section
variable {X : Cx} {pins : List (Addr × Obj)} {σ : L2.St} {H : Hp} {s : Shared} {h' : Heap}
theorem _root_.L2.Inv.turnedL {t' : Nat} {its : List Addr} (I : Inv X pins σ H s) (k : ∀ b o, b ∉ its → s.heap.get? b = some o → h'.get? b = some o) (hf : ∀ b ∈ its, FpOk X pins H b) : Inv X pins σ H { s with heap := h', toks := t' } := by
  have nit : ∀ b u, H b = some u → b ∉ its := fun b u e z => by rw [(hf b z).1] at e; cases e
  have hL : X.env.locals ∉ its := fun z => (hf _ z).2.1 rfl
  refine I.step (g' := s.gens) (d' := s.drawn) (ch := its) (fun b hb => ?_) (fun b o _ _ hc e _ => k b o hc e) (fun b o _ _ hc e _ => ⟨o.slots, k b o hc e⟩) (fun _ _ _ _ n => n)
    (fun b o hc e => ⟨o, k b o hc e⟩) (fun _ _ e => e) (fun _ _ _ e => e) (fun b ps e => ⟨#[], by rw [e]; simp⟩) (fun m hm => ?_) (fun b u e => ?_) I.bare
  · obtain ⟨_, h1, _, h2, h3, h4⟩ := hf b hb
    exact ⟨h2, h1, h3, h4⟩
  · obtain ⟨o, es, ep, ho, r⟩ := hm
    exact ⟨o, es, ep, k _ o hL ho, r⟩
  · refine (I.hok b u e).stay (fun c v hc q => k c v ?_ q) (fun _ q => q) fun _ _ q => q
    rcases hc with z | z
    · rw [z]; exact nit b u e
    · exact nit c _ z
end
def Ite (K : PySem.W.Frag) (a : Addr) : It :=
  ⟨fun i H => ∃ xs x, SqL K H a xs ∧ xs[i]? = some x, fun i H v H' => ∃ x T, (∀ xs, SqL K H a xs → xs[i]? = some x) ∧ v = .ref T ∧ H T = none ∧ H' = upd H T (.tup [.int i, x]), fun i H => ∃ xs, SqL K H a xs ∧ xs.length ≤ i⟩
theorem fpOk_upd {X : Cx} {pins : List (Addr × Obj)} {H : Hp} {T b : Addr} {o : HO} (h : FpOk X pins H b) (hb : b ≠ T) : FpOk X pins (upd H T o) b := by
  obtain ⟨h1, r⟩ := h
  exact ⟨by rw [upd_ne hb]; exact h1, r⟩
theorem turn_enum {P : Program} {w : World} {K : PySem.W.Frag} {elts : List Expr} {kk : Nat} {tp : Pos} (a e it : Addr) (hei : e ≠ it) : Turn P w K (.Tuple elts kk tp) (Ite K a) [e, it] e (fun i h => (∃ old, IsEnum h e it i old) ∧ h.IsListIter it a i) where
  mem := by simp
  obj := fun i h st b hb => by
    obtain ⟨⟨old, he⟩, o, hi, c, d⟩ := st
    simp only [List.mem_cons, List.not_mem_nil, or_false] at hb
    rcases hb with rfl | rfl
    · exact ⟨_, he, fun v z => by cases z⟩
    · exact ⟨o, hi, fun v z => by rw [d] at z; cases z⟩
  keep := fun i h h' st k => by
    obtain ⟨⟨old, he⟩, hi⟩ := st
    exact ⟨⟨old, k e (by simp) _ he⟩, hi.at fun o x => k it (by simp) o x⟩
  item := by
    intro X hP hw hK hc i pins s σ H E I hf st hg
    subst hP hw hK
    obtain ⟨xs, x, hq, hx⟩ := hg
    obtain ⟨its, rv, p, hz⟩ := I.list hq
    obtain ⟨u, hu, ru⟩ := rv.get hx
    obtain ⟨⟨old, he⟩, hit⟩ := st
    have helt : e < s.heap.objs.size := Heap.lt_size he
    have hilt : it < s.heap.objs.size := by obtain ⟨_, y, _⟩ := hit; exact Heap.lt_size y
    have hfe := hf e (by simp)
    have hfi := hf it (by simp)
    refine wpAny_pyNext_enum_item he hit p.isList (x := u) (by simpa using hu) hei fun h1 ho hit1 hT hsz hk => ?_
    refine ⟨_, rfl, ?_⟩
    refine wpAny_letOwnedTupleGo_enum (s := { s with heap := h1, toks := s.toks + 1 }) ho fun h2 he2 hs2 => ?_
    have hfr : H s.heap.objs.size = none := I.hok.fresh (Nat.le_refl _)
    have I1 : Inv X pins σ (upd H s.heap.objs.size (.tup [.int i, x])) { s with heap := s.heap.push { cls := .type "tuple", data := .seq #[.int i s.toks, u] }, toks := s.toks + 1 } :=
      I.laid (t' := s.toks + 1) (o := .tup [.int i, x]) (fun b o q => Heap.get?_push_of_some _ q) (Nat.le_refl _) ⟨(show 2 ≤ sizeLine by decide), [.int i s.toks, u], .cons ⟨s.toks, rfl⟩ (.cons ru .nil), IsTup.new _ _⟩
    have hT2 : h2.get? s.heap.objs.size = some { cls := .type "tuple", data := .seq #[.int i s.toks, u] } := (hs2.2 _ (Nat.ne_of_gt helt)).trans hT
    have I2 : Inv X pins σ (upd H s.heap.objs.size (.tup [.int i, x])) { s with heap := h2, toks := s.toks + 1 } := by
      refine L2.Inv.turnedL (s := { s with heap := s.heap.push { cls := .type "tuple", data := .seq #[.int i s.toks, u] }, toks := s.toks + 1 }) (its := [e, it]) (t' := s.toks + 1) (h' := h2) I1 (fun b o hb q => ?_) (fun b hb => ?_)
      · simp only [List.mem_cons, List.not_mem_nil, or_false, not_or] at hb
        rcases Nat.lt_or_ge b s.heap.objs.size with hlt | hge
        · have q' : s.heap.get? b = some o := by
            rw [Heap.get?_push_ne _ _ _ (Nat.ne_of_lt hlt)] at q; exact q
          exact (hs2.2 b hb.1).trans (hk b o hb.1 hb.2 q')
        · have hlt2 := Heap.lt_size q
          rw [Heap.size_push] at hlt2
          have hbe : b = s.heap.objs.size := Nat.le_antisymm (Nat.le_of_lt_succ hlt2) hge
          subst hbe
          rw [Heap.get?_push_size _ rfl] at q
          cases q
          exact hT2
      · simp only [List.mem_cons, List.not_mem_nil, or_false] at hb
        rcases hb with rfl | rfl
        · exact fpOk_upd hfe (Nat.ne_of_lt helt)
        · exact fpOk_upd hfi (Nat.ne_of_lt hilt)
    refine ⟨.ref s.heap.objs.size, _, I2, rfl, ⟨x, _, fun ys hy => by rw [I.list_inj hy hq]; exact hx, rfl, hfr, rfl⟩, ⟨⟨u, by simpa using he2⟩, hit1.at fun o y => (hs2.2 it (Ne.symm hei)).trans y⟩, fun b hb => ?_⟩
    simp only [List.mem_cons, List.not_mem_nil, or_false] at hb
    rcases hb with rfl | rfl
    · rw [upd_ne (Nat.ne_of_lt helt)]; exact hfe.1
    · rw [upd_ne (Nat.ne_of_lt hilt)]; exact hfi.1
  done := by
    intro X hP hw hK hc i pins s σ H E I hf st hg
    subst hP hw hK
    obtain ⟨xs, hq, hx⟩ := hg
    obtain ⟨its, rv, p, hz⟩ := I.list hq
    obtain ⟨⟨old, he⟩, hit⟩ := st
    have hl := rv.length
    refine wpAny_pyNext_enum_end (I.ok.hd hc) he hit p.isList (by simp; omega) fun h' eb => ⟨rfl, ?_⟩
    exact I.turnedL (its := [e, it]) (t' := s.toks) (fun b o hb q => eb b o (fun z => hb (by simp [z])) q) hf
  self := fun _ _ _ _ _ st h => by
    obtain ⟨⟨old, he⟩, _⟩ := st
    exact wpAny_pyIter_enum he h
section
variable {X : Cx}
def iEnum (ta : TA) (K : PySem.W.Frag) : TI := fun σ H R => ta σ H fun vs H1 => ∃ a xs, vs = [.ref a] ∧ H1 a = some (.lst xs) ∧ R (Ite K a) H1
theorem bt_enumerate' : bootBuiltins "enumerate" = some (.type "enumerate") := by decide +kernel
theorem pi_enum {elts : List Expr} {kk : Nat} {tp : Pos} {a : Expr} {ta : TA} {p pos : Pos} (hg : Gl X "enumerate") (hm : X.mg "enumerate" = none) (ha : PA X [a] ta) (hs : starEach [a] X.env = [(false, eval a X.env)]) : PI X (.Tuple elts kk tp) (.Call (.Name "enumerate" p) [a] [] pos) (iEnum ta X.K) := by
  intro pins s σ H R I h
  refine Call_ (ld_blt I hg hm bt_enumerate' (PyProof.Rows.callWith_type1 (thn (ha pos pins s σ H _ I h) fun us s1 ⟨vs, H1, I1, r1, q1⟩ => ?_) hs rfl))
  obtain ⟨l, xs, e, hl, q⟩ := q1
  subst e
  cases r1 with
  | cons r rr =>
    cases rr
    cases r
    obtain ⟨z, its, n, rv, ho⟩ := I1.hok l _ hl
    refine call_enumerate_1 ho fun h' he hi hsz hk => ?_
    refine wpAny_pyIter_enum he ?_
    have I2 : Inv X pins σ H1 { s1 with heap := h' } := I1.kept (t' := s1.toks) hk
    refine ⟨s1.heap.objs.size + 1, [s1.heap.objs.size + 1, s1.heap.objs.size], _, _, H1, rfl, I2, turn_enum l _ _ (Nat.succ_ne_self _), ⟨⟨_, he⟩, hi⟩, fun b hb => ?_, q⟩
    simp only [List.mem_cons, List.not_mem_nil, or_false] at hb
    rcases hb with rfl | rfl
    · exact I1.fpOk (Nat.le_succ _) (I1.hok.fresh (Nat.le_succ _))
    · exact I1.fpOk (Nat.le_refl _) (I1.hok.fresh (Nat.le_refl _))
theorem ienum {elts : List Expr} {kk : Nat} {tp : Pos} {a : Expr} {ta : TA} {p pos : Pos} (K : PySem.W.Frag) (hg : Gl X "enumerate") (hm : X.mg "enumerate" = none) (ha : QA X [a] ta) (h : notStar a = true := by rfl) (hK : X.K = K := by rfl) : QI X (.Tuple elts kk tp) (.Call (.Name "enumerate" p) [a] [] pos) (iEnum ta K) := by
  subst hK
  exact .mk (pi_enum hg hm ha.un (by rw [star_cons h, star_nil]))
theorem for_enum {K : PySem.W.Frag} {a : Addr} {xs : List V} {g : TG} {tb : TS} {D : Ends} {σ : L2.St} {H : Hp} (Pv : Nat → L2.St → Hp → Prop) (h0 : Pv 0 σ H) (hl : ∀ i σ H, i ≤ xs.length → Pv i σ H → H a = some (.lst xs))
    (hs : ∀ i x σ H T, xs[i]? = some x → Pv i σ H → H T = none → g (.ref T) σ (upd H T (.tup [.int i, x])) fun σ2 H2 => tb { D with nx := Pv (i + 1), ct := Pv (i + 1), bk := D.nx } σ2 H2) (hd : ∀ σ H, Pv xs.length σ H → D.nx σ H) :
    ∃ W : Nat → Nat → L2.St → Hp → Prop, (∃ m, W 0 m σ H) ∧ ∀ i m σ H, W i m σ H →
      ((Ite K a).stop i H ∧ D.nx σ H) ∨ ((Ite K a).go i H ∧ ∃ N : L2.St → Hp → Prop, (∀ σ' H', N σ' H' → ∃ m', m' < m ∧ W (i + 1) m' σ' H') ∧ ∀ x H', (Ite K a).yld i H x H' → g x σ H' fun σ2 H2 => tb { D with nx := N, ct := N, bk := D.nx } σ2 H2) := by
  refine ⟨fun i m σ H => m = xs.length - i ∧ i ≤ xs.length ∧ Pv i σ H, ⟨xs.length, by simp, Nat.zero_le _, h0⟩, ?_⟩
  rintro i m σ H ⟨rfl, hi, p⟩
  have q := hl i σ H hi p
  by_cases hlt : i < xs.length
  · refine .inr ⟨⟨xs, xs[i], SqL.of q, by simp [hlt]⟩, Pv (i + 1), fun σ' H' p' => ⟨xs.length - (i + 1), by omega, rfl, hlt, p'⟩, fun x H' y => ?_⟩
    obtain ⟨y, T, hy, rfl, hT, rfl⟩ := y
    exact hs i y σ H T (hy xs (SqL.of q)) p hT
  · have e : i = xs.length := by omega
    subst e
    exact .inl ⟨⟨xs, SqL.of q, Nat.le_refl _⟩, hd σ H p⟩
end
end L3
namespace L3
open PySem PySem.Spec PyProof.Rows L2
section
variable {X : Cx}
def rMinL (K : PySem.W.Frag) : List V → Hp → VK → Prop := fun xs H Q => ∃ (p : Addr) (ns : List Int), xs = [.ref p] ∧ SqL K H p (ns.map V.int) ∧ 0 < ns.length ∧ ∀ M, M ∈ ns → (∀ a ∈ ns, M ≤ a) → Q (.int M) H
theorem call_minL (hc : X.calm = true) : CallR X (.builtin "min") (rMinL X.K) := by
  intro pins s σ H xs us Q I rv h
  obtain ⟨p, ns, rfl, hp, hne, q⟩ := h
  obtain ⟨u, rfl, ru⟩ := vals1 rv
  cases ru
  obtain ⟨its, r, pl, hz⟩ := I.list hp
  have hi := intsAre_of r
  obtain ⟨ys, e⟩ := hi.allInts.items
  have hns : ns = ys.toList.map (·.1) := by rw [← hi.numsOf, ← nums_intItems, ← e]
  have hsz : 0 < ys.size := by
    have h3 := hne; rw [hns, List.length_map, Array.length_toList] at h3; exact h3
  have hl := pl.isList
  rw [e] at hl
  refine min_intList (I.ok.hd hc) hl hsz fun v h' tk hv hk => ?_
  obtain ⟨t, rfl⟩ := intItems_at hv
  obtain ⟨h1, h2⟩ := argBest_lt (numAt ys) (ys.size - 1)
  refine ⟨.int _, H, I.kept hk, ⟨t, rfl⟩, q _ ?_ fun a ha => ?_⟩
  · rw [hns, numAt_eq]; exact getD_mem (by rw [List.length_map, Array.length_toList]; omega)
  · rw [hns] at ha
    obtain ⟨j, hj, rfl⟩ := mem_getD ha
    rw [List.length_map, Array.length_toList] at hj
    rw [← numAt_eq]; exact h2 j (by omega)
theorem fMin (K : PySem.W.Frag) (hc : X.calm = true := by rfl) (hK : X.K = K := by rfl) : RCall X (.builtin "min") (rMinL K) := by subst hK; exact .mk (call_minL hc)
variable {o e f : Expr} {apos cpos : Pos} {td ty tx : TE} {k : Nat} {A : Around}
theorem qdp1 (ho : QE X o td) (he : QE X e ty) (m : M1 X o "pop" apos e cpos := by constructor <;> rfl) : QE X (.Call (.Attribute o "pop" apos) [e] [] cpos) (tDPop1 td ty) := .mk (pe_dpop1 ho.un he.un m)
end
end L3
namespace L3
open PySem PySem.Spec PyProof.Rows L2
def epOf (o : Obj) : Nat := match o.data with
  | .dict _ ep => ep
  | _ => 0
def Itd (ob : Obj) (a : Addr) (kvs : List (Key × V)) : It :=
  ⟨fun i H => H a = some (.frz ob (.dK kvs)) ∧ i < kvs.length, fun i H v H' => H' = H ∧ ∃ k x, kvs[i]? = some (k, x) ∧ v = kV k, fun i H => H a = some (.frz ob (.dK kvs)) ∧ kvs.length ≤ i⟩
theorem is_rel {P : Program} {w : World} {k : Key} {u : Value} (h : (mixKind P w).is k u = true) : RelV (kV k) u := by
  rcases keyIs_shape (show keyIs k u = true from h) with ⟨i, t, rfl, rfl⟩ | ⟨x, t, rfl, rfl⟩
  · exact ⟨t, rfl⟩
  · exact ⟨t, rfl⟩
theorem frz_at {P : Program} {w : World} {H : Hp} {h : Heap} {a : Addr} {ob : Obj} {kvs : List (Key × V)} (ok : HOk P w H h) (e : H a = some (.frz ob (.dK kvs))) : ∃ vs, KV kvs vs ∧ (a == sysModules) = false ∧ h.DictAt (mixKind P w) a vs (epOf ob) := by
  obtain ⟨hg, z, hs, vs, rel, o, es, ep, ho, hc, hd, r⟩ := (show ObjOk P w H h a (.frz ob (.dK kvs)) from ok a _ e)
  rw [hg] at ho
  cases ho
  refine ⟨vs, rel, hs, ob, es, hg, hc, ?_, r⟩
  unfold epOf
  rw [hd]
theorem turn_dict {P : Program} {w : World} {K : PySem.W.Frag} {tg : Expr} (ob : Obj) (a it : Addr) (kvs : List (Key × V)) (hne : a ≠ it) : Turn P w K tg (Itd ob a kvs) [it] it (fun i h => h.IsKeyIter it a i kvs.length (epOf ob)) where
  mem := by simp
  obj := fun i h st b hb => by
    have e : b = it := by simpa using hb
    subst e
    obtain ⟨o, e, c, d⟩ := st
    exact ⟨o, e, fun v z => by rw [d] at z; cases z⟩
  keep := fun i h h' st k => st.at fun o e => k it (by simp) o e
  item := by
    intro X hP hw hK hc i pins s σ H E I hf st hg
    subst hP hw hK
    obtain ⟨e, hi⟩ := hg
    obtain ⟨vs, rel, hs, hd⟩ := frz_at I.hok e
    have hlen := rel.length
    obtain ⟨f0, f1, f2, f3, f4, f5⟩ := hf it (by simp)
    obtain ⟨⟨k, y⟩, hk⟩ : ∃ p, vs[i]? = some p := ⟨vs[i]'(by omega), List.getElem?_eq_getElem (by omega)⟩
    have hkk : ∃ x, kvs[i]? = some (k, x) := by
      have h1 : kvs[i]? = some kvs[i] := List.getElem?_eq_getElem hi
      have h2 := congrArg (fun l => l[i]?) (KV.keys rel)
      simp only [List.getElem?_map, h1, hk, Option.map_some, Option.some.injEq] at h2
      exact ⟨kvs[i].2, by rw [h1, ← h2]⟩
    obtain ⟨x, hx⟩ := hkk
    have st' : s.heap.IsKeyIter it a i vs.length (epOf ob) := by rw [← hlen]; exact st
    refine wpAny_pyNext_dict_item st' hd hk fun key h' hkey hit' sb => ?_
    have I1 : Inv X pins σ H { s with heap := h' } := I.turned (t' := s.toks) (fun b o hb e => (sb.2 b hb).trans e) f0 f1 f3 f4 f5
    rw [← hlen] at hit'
    obtain ⟨o, e', c, d⟩ := id hit'
    exact ⟨key, rfl, go_of (s := { s with heap := h' }) e' c d (by decide) ⟨kV k, H, I1, is_rel hkey, ⟨rfl, k, x, hx, rfl⟩, hit', fun b hb => (hf b hb).1⟩⟩
  done := by
    intro X hP hw hK hc i pins s σ H E I hf st hg
    subst hP hw hK
    obtain ⟨e, hi⟩ := hg
    obtain ⟨vs, rel, hs, hd⟩ := frz_at I.hok e
    have hlen := rel.length
    obtain ⟨f0, f1, f2, f3, f4, f5⟩ := hf it (by simp)
    have st' : s.heap.IsKeyIter it a i vs.length (epOf ob) := by rw [← hlen]; exact st
    exact wpAny_pyNext_dict_end (I.ok.hd hc) st' hd (List.getElem?_eq_none (by omega)) fun h' eb => ⟨rfl, I.turned (t' := s.toks) (fun b o hb e => eb b o hb e) f0 f1 f3 f4 f5⟩
  self := fun _ _ _ _ _ st h => wpAny_pyIter_keyiter st h
section
variable {X : Cx} {tg : Expr}
def iDict (tl : TE) : TI := fun σ H R => tl σ H fun x H1 => ∃ a kvs, x = .ref a ∧ Rd H1 a (.dK kvs) ∧ ∀ ob H4, H4 a = some (.frz ob (.dK kvs)) → Same (rm a H1) H4 → R (Itd ob a kvs) H4
theorem pi_dict {l : Expr} {tl : TE} (hl : PE X l tl) : PI X tg l (iDict tl) := by
  intro pins s σ H R I h
  refine thn (hl pins s σ H _ I h) fun v s1 hh => ?_
  obtain ⟨x, H1, I1, r1, q1⟩ := hh
  obtain ⟨a, kvs, e, hrd, q⟩ := q1
  subst e
  cases r1
  have key : ∀ (H2 : Hp) (ob : Obj), Inv X pins σ H2 s1 → H2 a = some (.frz ob (.dK kvs)) → R (Itd ob a kvs) H2 → wpAny (model X.prog X.w) X.A (pyIter (.ref a)) (PIE X pins σ tg R) X.xe s1 := fun H2 ob I2 e q => by
    obtain ⟨vs, rel, hs, hd⟩ := frz_at I2.hok e
    have hlen := rel.length
    refine wpAny_pyIter_dict hs hd ?_
    refine ⟨s1.heap.objs.size, [s1.heap.objs.size], _, _, H2, rfl, I2.kept (t' := s1.toks) fun b o e => Heap.get?_push_of_some _ e, turn_dict ob a _ kvs (Nat.ne_of_lt hd.lt_size), ⟨_, Heap.get?_push_size _ rfl, rfl, by rw [hlen]; rfl⟩, fun b hb => ?_, q⟩
    have e : b = s1.heap.objs.size := by simpa using hb
    subst e
    exact I2.fpOk (Nat.le_refl _) (I2.hok.fresh (Nat.le_refl _))
  rcases hrd with e | ⟨ob, e⟩
  · obtain ⟨z, hs, vs, rel, o, es, ep, ho, r⟩ := (show ObjOk X.prog X.w H1 s1.heap a (.dK kvs) from I1.hok a _ e)
    have I2 : Inv X pins σ (upd H1 a (.frz o (.dK kvs))) { s1 with heap := s1.heap, toks := s1.toks } := I1.write (t' := s1.toks) (by rw [e]; exact True.intro) (.inl rfl) (fun b u _ q => q) ⟨o, ho⟩ ⟨ho, z, hs, vs, rel, o, es, ep, ho, r⟩
    exact key _ o I2 upd_same (q o _ upd_same (same_upd rm_same rm_self))
  · exact key _ ob I1 e (q ob _ e rm_same)
theorem idict {l : Expr} {tl : TE} (hl : QE X l tl) : QI X tg l (iDict tl) := .mk (pi_dict hl.un)
variable {g : TG} {tt : TT} {te : TE} {acc : Addr} {σ0 : L2.St} {H0 : Hp} {Q : Hp → Prop}
theorem for_dict {ob : Obj} {a : Addr} {kvs : List (Key × V)} {tb : TS} {D : Ends} {σ : L2.St} {H : Hp} (Pv : Nat → L2.St → Hp → Prop) (h0 : Pv 0 σ H) (hl : ∀ i σ H, i ≤ kvs.length → Pv i σ H → H a = some (.frz ob (.dK kvs)))
    (hs : ∀ i k x σ H, kvs[i]? = some (k, x) → Pv i σ H → g (kV k) σ H fun σ2 H2 => tb { D with nx := Pv (i + 1), ct := Pv (i + 1), bk := D.nx } σ2 H2) (hd : ∀ σ H, Pv kvs.length σ H → D.nx σ H) :
    ∃ W : Nat → Nat → L2.St → Hp → Prop, (∃ m, W 0 m σ H) ∧ ∀ i m σ H, W i m σ H →
      ((Itd ob a kvs).stop i H ∧ D.nx σ H) ∨ ((Itd ob a kvs).go i H ∧ ∃ N : L2.St → Hp → Prop, (∀ σ' H', N σ' H' → ∃ m', m' < m ∧ W (i + 1) m' σ' H') ∧ ∀ x H', (Itd ob a kvs).yld i H x H' → g x σ H' fun σ2 H2 => tb { D with nx := N, ct := N, bk := D.nx } σ2 H2) := by
  refine ⟨fun i m σ H => m = kvs.length - i ∧ i ≤ kvs.length ∧ Pv i σ H, ⟨kvs.length, by simp, Nat.zero_le _, h0⟩, ?_⟩
  rintro i m σ H ⟨rfl, hi, p⟩
  have q := hl i σ H hi p
  by_cases hlt : i < kvs.length
  · refine .inr ⟨⟨q, hlt⟩, Pv (i + 1), fun σ' H' p' => ⟨kvs.length - (i + 1), by omega, rfl, hlt, p'⟩, fun x H' y => ?_⟩
    obtain ⟨e, k, x', hk, rfl⟩ := y
    subst e
    exact hs i k x' σ _ hk p
  · have e : i = kvs.length := by omega
    subst e
    exact .inl ⟨⟨q, Nat.le_refl _⟩, hd σ H p⟩
end
end L3
namespace L3
open PySem PySem.Spec PyProof.Rows L2
section
variable {X : Cx}
theorem mPopAt : RMt X "list.pop" rPopAt := .mk mt_popAt
def rMin2 : List V → Hp → VK → Prop := fun xs H Q => ∃ i j, xs = [.int i, .int j] ∧ Q (.int (if j < i then j else i)) H
theorem fMin2 (hc : X.calm = true := by rfl) : RCall X (.builtin "min") rMin2 := .mk (call_min2 hc)
def rRepN : R2 := fun x y H Q => ∃ l k xs, x = .ref l ∧ y = .int k ∧ H l = some (.lst xs) ∧ 0 ≤ k ∧ k < 2 ^ 63 ∧ xs.length * k.toNat ≤ sizeLine ∧ New H (.lst (List.replicate k.toNat xs).flatten) Q
theorem op_repN : OpR X (binaryOp .Mult) rRepN := by
  intro pins s σ H x y v u Q I rx ry h
  obtain ⟨l, k, xs, rfl, rfl, hH, h1, h2, hz, q⟩ := h
  exact op_rep pins s σ H _ _ v u Q I rx ry ⟨l, k, xs, rfl, rfl, hH, by omega, h2, hz, fun p hp => q.at hp⟩
theorem rMulL : ROp X (binaryOp .Mult) rRepN := .mk op_repN
def rIndex : V → List V → Hp → VK → Prop := fun x vs H Q => ∃ (l : Addr) (ns : List Int) (k : Int), x = .ref l ∧ vs = [.int k] ∧ H l = some (.lst (ns.map V.int)) ∧ k ∈ ns ∧ ns.length ≤ 100000 ∧ Q (.int (ns.idxOf k : Nat)) H
theorem index_any {prog : Program} {w : World} {A : Around} {E : Value → Shared → Prop} {s : Shared} {l : Addr} {vs : List Value} {ns : List Int} {k : Int} {t : Tok} {Q : Value → Shared → Prop} (hl : s.heap.IsList l vs.toArray)
    (hi : IntsAre vs ns) (hb : ns.length ≤ 100000) (hk : k ∈ ns) (h : Q (.int (ns.idxOf k : Nat) s.toks) { s with toks := s.toks + 1 }) : wpAny (model prog w) A (call (.builtin "list.index") [.ref l, .int k t]) Q E s := by
  obtain ⟨⟨c1, d1, a1, l1⟩, h1, h2, n1, h3⟩ := id hl
  dsimp only at h2 h3
  subst h2 h3
  have e1 := hi.length
  have h4 : ns.idxOf k < ns.length := List.idxOf_lt_length_iff.mpr hk
  have h5 := PySem.SeqAt.list_indexAt l vs.toArray n1 d1 l1 (.int k t) (isInt k) (ns.idxOf k) (by simpa [e1] using h4) (by omega) (by
    show isInt k vs[ns.idxOf k] = true
    rw [isInt_at k hi _ (by omega) h4]; simp) (by
    intro j g1 g2
    show isInt k vs[j] = false
    rw [isInt_at k hi j (by simpa using g1) (by omega)]; exact ne_of_lt_idxOf g2 _)
  exact call_meets PySem.F.slot_list_index ⟨_, h1, rfl⟩ PySem.F.entry_list_index (PySem.F.args_list_index_2 _ _) h5 ⟨h1, fun y hy => (eq_isInt k t hi y (by simpa using hy)).at _ _, h⟩
theorem mt_index : MtM X "list.index" rIndex := by
  intro pins s σ H x vs v us Q I rx rv h
  obtain ⟨l, ns, k, rfl, rfl, hH, hk, hb, q⟩ := h
  cases rx
  obtain ⟨u, rfl, ru⟩ := rv.one
  obtain ⟨t, rfl⟩ := ru
  obtain ⟨z, its, n, r, hl, e⟩ := I.lstM hH
  refine index_any (vs := its) ⟨_, e, rfl, n, rfl⟩ (intsAre_of r) hb hk ?_
  exact ⟨.int _, H, I.tok _, ⟨_, rfl⟩, q⟩
theorem mIndex : RMt X "list.index" rIndex := .mk mt_index
end
section
variable {X : Cx}
end
end L3
namespace L3
open PySem PySem.Spec PyProof.Rows L2
section
variable {X : Cx} {pins : List (Addr × Obj)} {σ : L2.St} {H : Hp} {s : Shared} {a : Addr} {y d : V} {u r : Value} {o : Option V} {A : Around} {E : Value → Shared → Prop}
end
section
variable {X : Cx} {o e f : Expr} {apos cpos : Pos} {td ty tx : TE}
variable {k : Nat} {A : Around}
end
@[irreducible] def QP (X : Cx) (pos : Pos) (ks : List (Option Expr)) (vs : List Expr) (trs : List (TE × TE)) : Prop := PPs X pos ks vs trs
section
variable {X : Cx} {pos : Pos} {kx vx : Expr} {ks : List (Option Expr)} {vs : List Expr} {tk tv : TE} {trs : List (TE × TE)}
theorem QP.un (h : QP X pos ks vs trs) : PPs X pos ks vs trs := by unfold QP at h; exact h
theorem pnil : QP X pos [] [] [] := by unfold QP; exact pps_nil
theorem pcons (hk : QE X kx tk) (hv : QE X vx tv) (hr : QP X pos ks vs trs) : QP X pos (some kx :: ks) (vx :: vs) ((tk, tv) :: trs) := by unfold QP; exact pps_cons hk.un hv.un hr.un
theorem qdisp (h : QP X pos ks vs trs) (hall : ks.all (·.isSome) = true := by rfl) (hl : ks.length = vs.length := by rfl) (h0 : ks ≠ [] := by exact List.cons_ne_nil _ _) (h15 : ks.length ≤ 15 := by decide) : QE X (.Dict ks vs pos) (tDisp trs) := .mk (pe_disp h.un hall hl h0 h15)
end
end L3
namespace L3
open PySem PySem.Spec PyProof.Rows L2
section
variable {X : Cx}
def rSlTN (K : PySem.W.Frag) : V → Option Int → Option Int → Hp → VK → Prop := fun x lo hi H Q => ∃ a xs, x = .ref a ∧ SqT K H a xs ∧ ¬ (HT.sIx xs.length 0 lo = 0 ∧ HT.sIx xs.length xs.length hi = xs.length) ∧ New H (.tup (cutV xs lo hi)) Q
theorem sl_tupN : SlR X (rSlTN X.K) := by
  intro pins s σ H x v vl vu lo hi sl Q I rx hs pl pu h
  obtain ⟨a, xs, e, hx, hw, q⟩ := h
  exact sl_tup pins s σ H x v vl vu lo hi sl Q I rx hs pl pu ⟨a, xs, e, hx, hw, fun p hp => q.at hp⟩
theorem xSlT (K : PySem.W.Frag) (hK : X.K = K := by rfl) : RSl X (rSlTN K) := by subst hK; exact .mk sl_tupN
variable {a b : Expr} {ta tb : TE} {pos : Pos} {k : Nat} {A : Around}
theorem tdin (hr : Room k A) (ha : QE X a ta) (hb : QE X b tb) (hm : behindInMarks .In b = false := by with_unfolding_all rfl) (hA : X.A = A := by rfl) : QT X (.Compare a [.In] [b] pos) (tB (tDIn ta tb)) := .mk (pt_cmp (pc_din (by rw [hA]; exact hu_of hr) ha.un hb.un) hm)
end
end L3
namespace L3
open PySem PySem.Spec PyProof.Rows L2
section
variable {X : Cx}
end
end L3
namespace L3
open PySem PySem.Spec PyProof.Rows L2
theorem zip_apart {h : Heap} {z TI TO i1 i2 l1 l2 : Addr} {f0 a b : Value} {k1 k2 : Nat} {xs ys : Array Value} (hTT : TI ≠ TO) (h12 : i1 ≠ i2) (hz : IsZip h z TI TO f0) (hTI : IsPair h TI (.ref i1) (.ref i2)) (hTO : IsPair h TO a b) (h1 : h.IsListIter i1 l1 k1) (h2 : h.IsListIter i2 l2 k2) (hl1 : h.IsList l1 xs) (hl2 : h.IsList l2 ys) : ZipApart z TI TO i1 i2 l1 l2 := by
  have ne : ∀ {c d : Addr} {o o' : Obj} {n m : String}, h.get? c = some o → h.get? d = some o' → o.cls = .type n → o'.cls = .type m → n ≠ m → c ≠ d := by
    intro c d o o' n m e1 e2 k1 k2 hnm zz
    subst zz
    rw [e1] at e2
    cases e2
    rw [k1] at k2
    cases k2
    exact hnm rfl
  obtain ⟨o1, e1, c1, d1⟩ := h1
  obtain ⟨o2, e2, c2, d2⟩ := h2
  obtain ⟨q1, g1, k1, m1⟩ := hl1
  obtain ⟨q2, g2, k2, m2⟩ := hl2
  exact ⟨ne hTI hz rfl rfl (by decide), ne hTO hz rfl rfl (by decide), ne e1 hz c1 rfl (by decide), ne e2 hz c2 rfl (by decide), hTT, ne hTI e1 rfl c1 (by decide), ne hTI e2 rfl c2 (by decide), ne hTO e1 rfl c1 (by decide), ne hTO e2 rfl c2 (by decide), h12,
    ne g1 hz k1 rfl (by decide), ne g1 hTO k1 rfl (by decide), ne g1 e1 k1 c1 (by decide), ne g1 e2 k1 c2 (by decide), ne g2 hz k2 rfl (by decide), ne g2 hTO k2 rfl (by decide), ne g2 e1 k2 c1 (by decide), ne g2 e2 k2 c2 (by decide)⟩
section
variable {X : Cx}
theorem bt_zip' : bootBuiltins "zip" = some (.type "zip") := by decide +kernel
def rLenD : List V → Hp → VK → Prop := fun xs H Q => ∃ d kvs, xs = [.ref d] ∧ Rd H d (.dK kvs) ∧ Q (.int kvs.length) H
theorem call_lenD : CallR X (.builtin "len") rLenD := by
  intro pins s σ H xs us Q I rv h
  obtain ⟨d, kvs, rfl, e, q⟩ := h
  obtain ⟨u, rfl, ru⟩ := vals1 rv
  cases ru
  obtain ⟨z, hd, vs, rel, o, es, ep, h1, h2, h3, h4, h5, h6⟩ := dk_rd I.hok e
  have hlen : kvs.length = vs.length := Paired.length rel
  refine call_len_dict (knd := mixKind X.prog X.w) (kvs := vs) hd ⟨o, es, ep, h1, h2, h3, h4, h5, h6⟩ ?_ ?_
  · rw [← hlen]; exact Int.lt_of_le_of_lt (Int.ofNat_le.mpr z) (by decide)
  · refine ⟨.int kvs.length, H, I.kept (t' := s.toks + 1 + 1) (fun _ _ e => e), ⟨s.toks + 1, ?_⟩, q⟩
    rw [hlen]
theorem fLenD : RCall X (.builtin "len") rLenD := .mk call_lenD
end
end L3
namespace L3
open PySem PySem.Spec PyProof.Rows L2
section
variable {prog : Program} {w : World} {A : Around}
variable {R : Result → Shared → Prop} {it : Addr} {fp wr : List Addr} {n : Nat} {P : Nat → Value → Prop} {St : Nat → Heap → Prop} {kw : List (Str × Value)}
end
section
variable {X : Cx}
end
end L3
namespace HT
open PySem PyProof.Rows
theorem zip_getattr_none : typeLookup (.type "zip") "__getattr__" = pure none := by rw [typeLookup_type, builtinLookup_eq_fast]; kernel_rfl
theorem entry_zip_ga : entryFor table "zip.__getattribute__" = some Builtin.«object.__getattribute__» :=
  entryFor_alias (id' := "object.__getattribute__") (by kernel_rfl) (by decide +kernel) (by decide +kernel) (by kernel_rfl)
theorem zip_keys_none : typeLookup (.type "zip") "keys" = pure none := am_miss_of_fast (by kernel_rfl)
theorem meets_zip_keys (a : Addr) (vs : Array Value) (u : Tok) :
    Meets (Builtin.«object.__getattribute__» ⟨[.ref a, .str "keys" u], []⟩) (fun A R s => s.heap.get? a = some { cls := .type "zip", dict := none, data := .fields vs, slots := #[] } ∧ raisesAttr (.ref a) "keys" A R s) :=
  Meets.of_wp fun prog w A R s hs => by
    obtain ⟨hp, g, d, tk, os⟩ := s
    obtain ⟨hx, hs⟩ := hs
    have hT : (⟨hp, g, d, tk, os⟩ : Shared).TypeIs (.ref a) "zip" := ⟨_, hx, rfl⟩
    have hmiss := zip_keys_none
    unfold Builtin.«object.__getattribute__»
    repeat (any_goals (first | assumption | wp_step))
    try simp only [show (["__module__", "__name__", "__qualname__", "__doc__", "__annotations__"] : List Str).contains "keys" = false by decide, Bool.false_eq_true, if_false]
    repeat (any_goals (first | assumption | wp_step))
    exact wpAny_raiseAttrError hs.1 hs.2 (attrMsg_fits (by decide +kernel) (by size_fits))
theorem getAttrQ_zip_keys {prog : Program} {w : World} {A : Around} {E : Value → Shared → Prop} {s : Shared} {a : Addr} {vs : Array Value} {Q : Option Value → Shared → Prop}
    (hx : s.heap.get? a = some { cls := .type "zip", dict := none, data := .fields vs, slots := #[] }) (hA : A.handled = none)
    (h : ∀ h' tk, (∀ b o, s.heap.get? b = some o → h'.get? b = some o) → Q none { s with heap := h', toks := tk }) :
    wpAny (model prog w) A (getAttr? (.ref a) "keys") Q E s := by
  obtain ⟨hp, g, d, tk, os⟩ := s
  have hT : ∀ tk', (⟨hp, g, d, tk', os⟩ : Shared).TypeIs (.ref a) "zip" := fun _ => ⟨_, hx, rfl⟩
  have f1 := sub_AttributeError
  have f3 := PySem.F.slot_zip_getattribute.lookup
  have f4 := PySem.F.slot_zip_getattribute.bind (.ref a)
  have f5 := zip_getattr_none
  unfold getAttr? getAttrBy? getAttrBy
  repeat (any_goals (first | assumption | exact hT _ | ((with_reducible show wpAny _ _ (call (Value.builtin "zip.__getattribute__") _ _) _ _ _); refine call_meets PySem.F.slot_zip_getattribute (hT _) entry_zip_ga (PySem.F.args_zip_getattribute_2 _ _) (meets_zip_keys a vs _) ⟨hx, hA, fun h' tk' e hx' => ?_⟩) | wp_step))
  obtain ⟨t', u', he⟩ := hx'.there
  show wpAny _ _ (getattributeRaised _ _ _ _ _ _ _) _ _ _
  unfold getattributeRaised
  repeat (any_goals (first | assumption | wp_step))
  exact h _ _ hx'.keeps
abbrev IsZip2 (h : Heap) (z TI TO T : Addr) (b : Bool) : Prop :=
  h.get? z = some { cls := .type "zip", dict := none, data := .fields #[rawInt T, .bool b, .bool false, .ref TI, .ref TO], slots := #[] }
section
variable {prog : Program} {w : World} {A : Around} {E : Value → Shared → Prop} {s : Shared}
theorem owned_not_free {z TI TO T : Addr} {b : Bool} {o : Obj} {Q : Bool → Shared → Prop} (hz : IsZip2 s.heap z TI TO T b) (hT : s.heap.get? T = some o)
    (h : ∀ h', IsZip2 h' z TI TO T true → Heap.SameBut z s.heap h' → Q false { s with heap := h' }) :
    wpAny (model prog w) A (Builtin.SmallTypes.ownedTupleIsFree (.ref z)) Q E s := by
  unfold Builtin.SmallTypes.ownedTupleIsFree
  refine wpAny_bind (wpAny_field hz rfl (x := rawInt T) rfl ?_)
  show wpAny _ _ (loadIfAlive ((T : Int).toNat) >>= _) _ _ _
  have hla : ∀ {Q' : Option Obj → Shared → Prop}, Q' (some o) s → wpAny (model prog w) A (loadIfAlive ((T : Int).toNat)) Q' E s := fun {Q'} hq Γ p hΓ => by
    unfold loadIfAlive
    rw [Sem.wp_loadIfAlive, Int.toNat_natCast, hT]
    exact (wpAny_pure hq : wpAny (model prog w) A (pure (some o)) Q' E s) Γ p hΓ
  refine wpAny_bind (hla ?_)
  show wpAny _ _ (field (.ref z) 1 >>= _) _ _ _
  refine wpAny_bind (wpAny_field hz rfl (x := .bool b) rfl ?_)
  cases b with
  | true =>
    exact wpAny_pure (h s.heap hz (Heap.SameBut.refl _ _))
  | false =>
    refine wpAny_bind (wpAny_setField_rec hz (by simp) fun h' hz' hs' => wpAny_pure (h h' hz' hs'))
end
end HT
namespace HT
open PySem PyProof.Rows
section
variable {prog : Program} {w : World} {A : Around} {E : Value → Shared → Prop} {s : Shared}
theorem zip2_item {z TI TO i1 i2 l1 l2 T : Addr} {c : Bool} {o : Obj} {k1 k2 : Nat} {xs ys : Array Value} {x y : Value} {Q : Option Value → Shared → Prop} (D : ZipApart z TI TO i1 i2 l1 l2)
    (hz : IsZip2 s.heap z TI TO T c) (hT : s.heap.get? T = some o) (hTI : IsPair s.heap TI (.ref i1) (.ref i2)) (h1 : s.heap.IsListIter i1 l1 k1) (h2 : s.heap.IsListIter i2 l2 k2) (hl1 : s.heap.IsList l1 xs) (hl2 : s.heap.IsList l2 ys) (hx : xs[k1]? = some x) (hy : ys[k2]? = some y)
    (hQ : ∀ h', IsZip2 h' z TI TO T true → h'.IsListIter i1 l1 (k1 + 1) → h'.IsListIter i2 l2 (k2 + 1) → IsPair h' s.heap.objs.size x y → h'.objs.size = s.heap.objs.size + 1 →
      (∀ c o, c ≠ z → c ≠ i1 → c ≠ i2 → s.heap.get? c = some o → h'.get? c = some o) → Q (some (.ref s.heap.objs.size)) { s with heap := h' }) :
    wpAny (model prog w) A (pyNext (.ref z)) Q E s := by
  have hTy : s.TypeIs (.ref z) "zip" := ⟨_, hz, rfl⟩
  unfold pyNext
  refine wpAny_bind (wpAny_attempt (wpAny_callSpecial?_slot (name := Str.ofString "__next__") hTy F.slot_zip_next
    (wpAny_call_entry F.slot_zip_next hTy F.entry_zip_next ?_ (F.args_zip_next_1 _))))
  show wpAny _ _ (field (.ref z) 2 >>= _) _ _ _
  refine wpAny_bind (wpAny_field hz rfl (x := .bool false) rfl ?_)
  show wpAny _ _ (field (.ref z) 3 >>= _) _ _ _
  refine wpAny_bind (wpAny_field hz rfl (x := .ref TI) rfl ?_)
  refine wpAny_bind (wpAny_seqItems hTI rfl ?_)
  show wpAny _ _ (Builtin.SmallTypes.ownedTupleIsFree (.ref z) >>= _) _ _ _
  refine wpAny_bind (owned_not_free hz hT fun h₁ hz₁ hs₁ => ?_)
  simp only [Bool.false_eq_true, if_false]
  rw [List.forIn_toArray]
  simp only [List.forIn_cons, List.forIn_nil]
  refine wpAny_bind (wpAny_bind (wpAny_bind (wpAny_holding ?_)))
  show wpAny _ _ (Builtin.SmallTypes.nextOf (.ref i1) >>= _) _ _ _
  refine wpAny_bind (wpAny_nextOf_list_item (h1.extBut hs₁.extBut D.i1z) (hl1.extBut hs₁.extBut D.l1z) hx fun h₂ h1₂ hs₂ => wpAny_pure (wpAny_pure ?_))
  refine wpAny_bind (wpAny_bind (wpAny_holding ?_))
  show wpAny _ _ (Builtin.SmallTypes.nextOf (.ref i2) >>= _) _ _ _
  refine wpAny_bind (wpAny_nextOf_list_item ((h2.extBut hs₁.extBut D.i2z).extBut hs₂.extBut D.i12.symm) ((hl2.extBut hs₁.extBut D.l2z).extBut hs₂.extBut D.l2i1) hy fun h₃ h2₃ hs₃ => wpAny_pure (wpAny_pure (wpAny_pure ?_)))
  refine wpAny_bind (wpAny_newTuple (hsz := (show 2 ≤ sizeLine by decide)) (wpAny_pure ⟨_, rfl, wpAny_pure ?_⟩))
  have hsz : h₃.objs.size = s.heap.objs.size := by rw [hs₃.1, hs₂.1, hs₁.1]
  have hz₃ : IsZip2 h₃ z TI TO T true := hs₃.extBut _ _ D.i2z.symm (hs₂.extBut _ _ D.i1z.symm hz₁)
  have hk₃ : ∀ c o, c ≠ z → c ≠ i1 → c ≠ i2 → s.heap.get? c = some o → h₃.get? c = some o := fun c o c1 c2 c3 e => hs₃.extBut _ _ c3 (hs₂.extBut _ _ c2 (hs₁.extBut _ _ c1 e))
  have h1₃ : h₃.IsListIter i1 l1 (k1 + 1) := h1₂.extBut hs₃.extBut D.i12
  have up : ∀ c o, h₃.get? c = some o → (h₃.push { cls := .type "tuple", data := .seq #[x, y] }).get? c = some o := fun c o e => Heap.get?_push_of_some _ e
  have := hQ (h₃.push { cls := .type "tuple", data := .seq #[x, y] }) (up _ _ hz₃) (h1₃.at fun o e => up _ o e) (h2₃.at fun o e => up _ o e) (by rw [← hsz]; exact Heap.get?_push_size _ rfl) (by rw [Heap.size_push, hsz]) fun c o c1 c2 c3 e => up c o (hk₃ c o c1 c2 c3 e)
  rw [← hsz] at this
  exact this
theorem zip2_end {z TI TO i1 i2 l1 l2 T : Addr} {c : Bool} {o : Obj} {k1 k2 : Nat} {xs ys : Array Value} {Q : Option Value → Shared → Prop} (hh : A.handled = none) (D : ZipApart z TI TO i1 i2 l1 l2)
    (hz : IsZip2 s.heap z TI TO T c) (hT : s.heap.get? T = some o) (hTI : IsPair s.heap TI (.ref i1) (.ref i2)) (h1 : s.heap.IsListIter i1 l1 k1) (h2 : s.heap.IsListIter i2 l2 k2) (hl1 : s.heap.IsList l1 xs) (hl2 : s.heap.IsList l2 ys) (hx : xs[k1]? = none)
    (hQ : ∀ h', (∀ c o, c ≠ z → c ≠ i1 → c ≠ i2 → s.heap.get? c = some o → h'.get? c = some o) → Q none { s with heap := h' }) :
    wpAny (model prog w) A (pyNext (.ref z)) Q E s := by
  have hTy : s.TypeIs (.ref z) "zip" := ⟨_, hz, rfl⟩
  unfold pyNext
  refine wpAny_bind (wpAny_attempt (wpAny_callSpecial?_slot (name := Str.ofString "__next__") hTy F.slot_zip_next
    (wpAny_call_entry F.slot_zip_next hTy F.entry_zip_next ?_ (F.args_zip_next_1 _))))
  show wpAny _ _ (field (.ref z) 2 >>= _) _ _ _
  refine wpAny_bind (wpAny_field hz rfl (x := .bool false) rfl ?_)
  show wpAny _ _ (field (.ref z) 3 >>= _) _ _ _
  refine wpAny_bind (wpAny_field hz rfl (x := .ref TI) rfl ?_)
  refine wpAny_bind (wpAny_seqItems hTI rfl ?_)
  show wpAny _ _ (Builtin.SmallTypes.ownedTupleIsFree (.ref z) >>= _) _ _ _
  refine wpAny_bind (owned_not_free hz hT fun h₁ hz₁ hs₁ => ?_)
  simp only [Bool.false_eq_true, if_false]
  rw [List.forIn_toArray]
  simp only [List.forIn_cons, List.forIn_nil]
  refine wpAny_bind (wpAny_bind (wpAny_bind (wpAny_holding ?_)))
  show wpAny _ _ (Builtin.SmallTypes.nextOf (.ref i1) >>= _) _ _ _
  refine wpAny_bind (wpAny_nextOf_list_end hh (h1.extBut hs₁.extBut D.i1z) (hl1.extBut hs₁.extBut D.l1z) hx fun h₂ e hs₂ he => ?_)
  obtain ⟨oe, hoe, hce⟩ := he
  refine wpAny_bind (wpAny_isInstance (T := "StopIteration") (b := true) ⟨oe, hoe, hce⟩ isSubtype_stop ?_)
  exact wpAny_pure (hQ _ fun c o c1 c2 c3 x => hs₂ _ _ c2 (hs₁.extBut _ _ c1 x))
def ZS (z TI TO i1 i2 l1 l2 : Addr) (i : Nat) (h : Heap) : Prop :=
  IsPair h TI (.ref i1) (.ref i2) ∧ h.IsListIter i1 l1 i ∧ h.IsListIter i2 l2 i ∧ (∃ a b, IsPair h TO a b) ∧ ((IsZip h z TI TO .none) ∨ ∃ T b o, IsZip2 h z TI TO T b ∧ h.get? T = some o ∧ T ≠ z ∧ T ≠ TO ∧ T ≠ i1 ∧ T ≠ i2)
theorem zs_item {z TI TO i1 i2 l1 l2 : Addr} {i : Nat} {xs ys : Array Value} {x y : Value} {Q : Option Value → Shared → Prop} (D : ZipApart z TI TO i1 i2 l1 l2) (hs : ZS z TI TO i1 i2 l1 l2 i s.heap) (hl1 : s.heap.IsList l1 xs) (hl2 : s.heap.IsList l2 ys) (hx : xs[i]? = some x) (hy : ys[i]? = some y)
    (hQ : ∀ h', ZS z TI TO i1 i2 l1 l2 (i + 1) h' → IsPair h' s.heap.objs.size x y → h'.objs.size = s.heap.objs.size + 1 → (∀ c o, c ≠ z → c ≠ TO → c ≠ i1 → c ≠ i2 → s.heap.get? c = some o → h'.get? c = some o) → Q (some (.ref s.heap.objs.size)) { s with heap := h' }) :
    wpAny (model prog w) A (pyNext (.ref z)) Q E s := by
  obtain ⟨hTI, h1, h2, ⟨a, b, hTO⟩, hz⟩ := hs
  have lt : ∀ {c o}, s.heap.get? c = some o → s.heap.objs.size ≠ c := fun e => Nat.ne_of_gt (Heap.lt_size e)
  have li1 : s.heap.objs.size ≠ i1 := by obtain ⟨_, e, _⟩ := h1; exact lt e
  have li2 : s.heap.objs.size ≠ i2 := by obtain ⟨_, e, _⟩ := h2; exact lt e
  rcases hz with hz | ⟨T, c, o, hz, hT, t1, t2, t3, t4⟩
  · refine wpAny_pyNext_zip_item D hz hTI hTO h1 h2 hl1 hl2 hx hy fun h' a1 a2 a3 a4 a5 a6 hk => ?_
    exact hQ h' ⟨hk _ _ D.TIz D.TITO D.TIi1 D.TIi2 hTI, a3, a4, ⟨_, _, a2⟩, .inr ⟨_, false, _, a1, a5, lt hz, lt hTO, li1, li2⟩⟩ a5 a6 hk
  · refine zip2_item D hz hT hTI h1 h2 hl1 hl2 hx hy fun h' a1 a3 a4 a5 a6 hk => ?_
    exact hQ h' ⟨hk _ _ D.TIz D.TIi1 D.TIi2 hTI, a3, a4, ⟨_, _, hk _ _ D.TOz D.TOi1 D.TOi2 hTO⟩, .inr ⟨T, true, o, a1, hk _ _ t1 t3 t4 hT, t1, t2, t3, t4⟩⟩ a5 a6 fun c o c1 _ c3 c4 e => hk c o c1 c3 c4 e
theorem zs_end {z TI TO i1 i2 l1 l2 : Addr} {i : Nat} {xs ys : Array Value} {Q : Option Value → Shared → Prop} (hh : A.handled = none) (D : ZipApart z TI TO i1 i2 l1 l2) (hs : ZS z TI TO i1 i2 l1 l2 i s.heap) (hl1 : s.heap.IsList l1 xs) (hl2 : s.heap.IsList l2 ys) (hx : xs[i]? = none)
    (hQ : ∀ h', (∀ c o, c ≠ z → c ≠ TO → c ≠ i1 → c ≠ i2 → s.heap.get? c = some o → h'.get? c = some o) → Q none { s with heap := h' }) :
    wpAny (model prog w) A (pyNext (.ref z)) Q E s := by
  obtain ⟨hTI, h1, h2, ⟨a, b, hTO⟩, hz⟩ := hs
  rcases hz with hz | ⟨T, c, o, hz, hT, _⟩
  · exact wpAny_pyNext_zip_end hh D hz hTI hTO h1 h2 hl1 hl2 (.inl hx) hQ
  · exact zip2_end hh D hz hT hTI h1 h2 hl1 hl2 hx fun h' hk => hQ h' fun c o c1 _ c3 c4 e => hk c o c1 c3 c4 e
theorem ZS.frame {z TI TO i1 i2 l1 l2 S : Addr} {i : Nat} {h h' : Heap} {oS : Obj} (hs : ZS z TI TO i1 i2 l1 l2 i h) (hS : S ≠ z ∧ S ≠ TI ∧ S ≠ TO ∧ S ≠ i1 ∧ S ≠ i2) (k : ∀ c o, c ≠ S → h.get? c = some o → h'.get? c = some o) (eS : h'.get? S = some oS) : ZS z TI TO i1 i2 l1 l2 i h' := by
  obtain ⟨hTI, h1, h2, ⟨a, b, hTO⟩, hz⟩ := hs
  obtain ⟨s1, s2, s3, s4, s5⟩ := hS
  refine ⟨k _ _ s2.symm hTI, h1.at fun o e => k _ o s4.symm e, h2.at fun o e => k _ o s5.symm e, ⟨a, b, k _ _ s3.symm hTO⟩, ?_⟩
  rcases hz with hz | ⟨T, c, o, hz, hT, t⟩
  · exact .inl (k _ _ s1.symm hz)
  · by_cases hTS : T = S
    · subst hTS; exact .inr ⟨T, c, oS, k _ _ s1.symm hz, eS, t⟩
    · exact .inr ⟨T, c, o, k _ _ s1.symm hz, k _ _ hTS hT, t⟩
variable {R : Result → Shared → Prop} {K : Type} [DecidableEq K] {knd : KeyKind prog w K}
theorem code_dz {z TI TO i1 i2 l1 l2 S : Addr} (hh : A.handled = none) (D : ZipApart z TI TO i1 i2 l1 l2) (hS : S ≠ z ∧ S ≠ TI ∧ S ≠ TO ∧ S ≠ i1 ∧ S ≠ i2) (hSl : S ≠ l1 ∧ S ≠ l2) (ps : Nat → K × Value) (xs ys : Array Value) (hxy : xs.size = ys.size) (hb : xs.size ≤ sizeLine)
    (hkey : ∀ (j : Nat) x, xs[j]? = some x → knd.is (ps j).1 x = true) (hval : ∀ (j : Nat) y, ys[j]? = some y → (ps j).2 = y) :
    ∀ (k i : Nat) (c : Int) (s : Shared), xs.size = i + k → ZS z TI TO i1 i2 l1 l2 i s.heap → s.heap.IsList l1 xs → s.heap.IsList l2 ys → s.heap.DictOf knd S (accP ps i) →
      (∀ h' tk, (∀ b o, b ≠ S → b ≠ z → b ≠ TO → b ≠ i1 → b ≠ i2 → s.heap.get? b = some o → h'.get? b = some o) → h'.DictOf knd S (accP ps xs.size) → R (.ok (.ret .none)) { s with heap := h', toks := tk }) →
      codeAny (model prog w) A (.builtin "dict.update.loop" ⟨[.ref S, .ref z, rawInt c, .none], []⟩) R s
  | 0, i, c, s, hk, hz, hl1, hl2, hd, hR => by
    refine codeAny_builtin entry_dul ?_
    rw [Around.under_plainId plain_dul _]
    show wpAny _ A.in1 (pyNext (.ref z) >>= _) _ _ s
    refine wpAny_bind (zs_end (by simp [hh]) D hz hl1 hl2 (Array.getElem?_eq_none (by omega)) fun h' hm => ?_)
    show wpAny _ A.in1 (Builtin.Dict.addKeywords S [] >>= _) _ _ _
    refine wpAny_bind (wpAny_pure (wpAny_pure (hR h' s.toks (fun b o _ b1 b2 b3 b4 e => hm b o b1 b2 b3 b4 e) ?_)))
    rw [show xs.size = i by omega]
    exact hd.at fun o e => hm S o hS.1 hS.2.2.1 hS.2.2.2.1 hS.2.2.2.2 e
  | k + 1, i, c, s, hk, hz, hl1, hl2, hd, hR => by
    have hix : i < xs.size := by omega
    have hiy : i < ys.size := by omega
    refine codeAny_builtin entry_dul ?_
    rw [Around.under_plainId plain_dul _]
    show wpAny _ A.in1 (pyNext (.ref z) >>= _) _ _ s
    refine wpAny_bind (zs_item D hz hl1 hl2 (Array.getElem?_eq_getElem hix) (Array.getElem?_eq_getElem hiy) fun h' hz' hp hsz hm => ?_)
    have hS' : h'.DictOf knd S (accP ps i) := hd.at fun o e => hm S o hS.1 hS.2.2.1 hS.2.2.2.1 hS.2.2.2.2 e
    have hty : Shared.TypeIs { s with heap := h' } (.ref s.heap.objs.size) "tuple" := ⟨_, hp, rfl⟩
    refine wpAny_bind (wpAny_holding (wpAny_bind (wpAny_tryCatch ?_)))
    unfold Builtin.Dict.pairItems
    refine wpAny_bind (wpAny_typeOf hty ?_)
    rw [if_pos (by decide)]
    refine wpAny_bind (wpAny_seqItems hp rfl ?_)
    refine wpAny_pure ?_
    have hroom : (accP ps i).length ≤ sizeLine := by have := accP_len ps i; omega
    refine wpAny_holding (wpAny_dictSet_pairs (hkey i _ (Array.getElem?_eq_getElem hix)) hS' (fun h2 hd2 hsb => ?_) hroom)
    have hacc : accP ps (i + 1) = stored (accP ps i) (ps i).1 ys[i] := by rw [accP, hval i _ (Array.getElem?_eq_getElem hiy)]
    have hl1' : h'.IsList l1 xs := hl1.at fun o e => hm _ o D.l1z D.l1TO D.l1i1 D.l1i2 e
    have hl2' : h'.IsList l2 ys := hl2.at fun o e => hm _ o D.l2z D.l2TO D.l2i1 D.l2i2 e
    have k2 : ∀ c o, c ≠ S → h'.get? c = some o → h2.get? c = some o := fun c o hc e => by rw [hsb.2 c hc]; exact e
    obtain ⟨oS, eS⟩ : ∃ o, h2.get? S = some o := by obtain ⟨o, _, _, e, _⟩ := hd2; exact ⟨o, e⟩
    refine wpAny_pure ⟨plainId_quiet plain_dul _, code_dz hh D hS hSl ps xs ys hxy hb hkey hval k (i + 1) (c + 1) _ (by omega) (hz'.frame hS k2 eS) (hl1'.at fun o e => k2 _ o hSl.1.symm e) (hl2'.at fun o e => k2 _ o hSl.2.symm e) (by rw [hacc]; exact hd2) fun h3 tk3 hm3 hd3 => ?_⟩
    exact hR h3 tk3 (fun b o b0 b1 b2 b3 b4 e => hm3 b o b0 b1 b2 b3 b4 (k2 _ _ b0 (hm b o b1 b2 b3 b4 e))) hd3
theorem call_dict_zip {z TI TO i1 i2 l1 l2 : Addr} {ps : Nat → K × Value} {xs ys : Array Value} {Q : Value → Shared → Prop} (hh : A.handled = none) (hTT : TI ≠ TO) (h12 : i1 ≠ i2) (hz : IsZip s.heap z TI TO .none) (hTI : IsPair s.heap TI (.ref i1) (.ref i2)) (hTO : IsPair s.heap TO .none .none) (h1 : s.heap.IsListIter i1 l1 0) (h2 : s.heap.IsListIter i2 l2 0) (hl1 : s.heap.IsList l1 xs) (hl2 : s.heap.IsList l2 ys)
    (hxy : xs.size = ys.size) (hb : xs.size ≤ sizeLine) (hkey : ∀ (j : Nat) x, xs[j]? = some x → knd.is (ps j).1 x = true) (hval : ∀ (j : Nat) y, ys[j]? = some y → (ps j).2 = y)
    (h : ∀ h' tk, (∀ b o, b ≠ z → b ≠ TO → b ≠ i1 → b ≠ i2 → s.heap.get? b = some o → h'.get? b = some o) → h'.DictOf knd s.heap.objs.size (accP ps xs.size) → Q (.ref s.heap.objs.size) { s with heap := h', toks := tk }) :
    wpAny (model prog w) A (call (.type "dict") [.ref z]) Q E s := by
  have D := L3.zip_apart hTT h12 hz hTI hTO h1 h2 hl1 hl2
  refine callType_codes (Q₁ := fun (obj : Value) (s₁ : Shared) => obj = Value.ref s.heap.objs.size ∧ s₁ = { s with heap := s.heap.push { cls := .type "dict", data := .dict #[] } }) PySem.F.kt_called_dict (PySem.F.kt_typeCall_dict_1 _) PySem.F.entry_dict_init (kt_code_dict_new _ ⟨rfl, rfl⟩) ?_
  rintro obj s₁ ⟨rfl, rfl⟩
  have hnew : (s.heap.push { cls := .type "dict", data := .dict #[] }).DictOf knd s.heap.objs.size [] := Heap.DictOf.new s.heap
  have up : ∀ c o, s.heap.get? c = some o → (s.heap.push { cls := .type "dict", data := .dict #[] }).get? c = some o := fun c o e => Heap.get?_push_of_some _ e
  have hz' := up _ _ hz
  have hty : Shared.TypeIs { s with heap := s.heap.push { cls := .type "dict", data := .dict #[] } } (.ref z) "zip" := ⟨_, hz', rfl⟩
  refine ⟨hnew.typeIs, PySem.F.args_dict_init_2 _ _, ?_⟩
  unfold Builtin.«dict.__init__»
  refine wpAny_bind ?_
  unfold Builtin.Dict.selfAndRest
  refine wpAny_bind (wpAny_notOrdered_dict hnew.typeIs ?_)
  show wpAny _ _ (pure (s.heap.objs.size, [Value.ref z])) _ _ _
  refine wpAny_pure ?_
  show wpAny _ _ (Builtin.Dict.updateFrom "dict.__init__" s.heap.objs.size (.ref z) [] .none) _ _ _
  unfold Builtin.Dict.updateFrom
  refine wpAny_bind (wpAny_typeOf hty ?_)
  rw [if_pos (by decide)]
  refine wpAny_bind (getAttrQ_zip_keys hz' (by simp [hh]) (fun hp2 tk2 k2 => ?_))
  simp only [Option.isNone_none, if_true]
  refine wpAny_bind (wpAny_rule ?_)
  have k02 : ∀ c o, s.heap.get? c = some o → hp2.get? c = some o := fun c o e => k2 _ _ (up _ _ e)
  refine wpAny_bind (wpAny_pyIter_zip (k02 _ _ hz) ?_)
  have lt : ∀ {c o}, s.heap.get? c = some o → s.heap.objs.size ≠ c := fun e => Nat.ne_of_gt (Heap.lt_size e)
  have l1' : s.heap.objs.size ≠ i1 := by obtain ⟨_, e, _⟩ := h1; exact lt e
  have l2' : s.heap.objs.size ≠ i2 := by obtain ⟨_, e, _⟩ := h2; exact lt e
  have l3' : s.heap.objs.size ≠ l1 := by obtain ⟨_, e, _⟩ := hl1; exact lt e
  have l4' : s.heap.objs.size ≠ l2 := by obtain ⟨_, e, _⟩ := hl2; exact lt e
  refine wpAny_pure ⟨plainId_quiet plain_dul _, code_dz (knd := knd) (by simp [hh]) D ⟨lt hz, lt hTI, lt hTO, l1', l2'⟩ ⟨l3', l4'⟩ ps xs ys hxy hb hkey hval xs.size 0 0 _ (by omega) ⟨k02 _ _ hTI, h1.at fun o e => k02 _ o e, h2.at fun o e => k02 _ o e, ⟨_, _, k02 _ _ hTO⟩, .inl (k02 _ _ hz)⟩ (hl1.at fun o e => k02 _ o e) (hl2.at fun o e => k02 _ o e) (hnew.at fun o e => k2 _ o e) fun h3 tk3 hm3 hd3 => ?_⟩
  exact ⟨rfl, h h3 tk3 (fun b o b1 b2 b3 b4 e => hm3 b o (fun z' => lt e z'.symm) b1 b2 b3 b4 (k02 _ _ e)) hd3⟩
end
end HT
namespace L3
open PySem PySem.Spec PyProof.Rows L2
section
variable {X : Cx}
def zipK (ks : List Int) (ys : List V) : List (Key × V) := (ks.zip ys).map fun p => ((Sum.inl p.1 : Key), p.2)
def tDictZ (ta : TA) : TE := fun σ H Q => ta σ H fun vs H1 => ∃ a b ks ys, vs = [.ref a, .ref b] ∧ H1 a = some (.lst (ks.map V.int)) ∧ H1 b = some (.lst ys) ∧ ks.length = ys.length ∧ New H1 (.dK (mergeK [] (zipK ks ys))) Q
theorem pe_dictZ {a b : Expr} {ta : TA} {p p2 pos pos2 : Pos} (hc : X.calm = true) (hg : Gl X "dict") (hm : X.mg "dict" = none) (hv : bootBuiltins "dict" = some (.type "dict")) (hg2 : Gl X "zip") (hm2 : X.mg "zip" = none) (ha : PA X [a, b] ta) (hs : starEach [a, b] X.env = [(false, eval a X.env), (false, eval b X.env)]) (hs2 : starEach [b] X.env = [(false, eval b X.env)]) :
    PE X (.Call (.Name "dict" p) [.Call (.Name "zip" p2) [a, b] [] pos2] [] pos) (tDictZ ta) := by
  intro pins s σ H Q I h
  refine wpAny_Call_Name_kw (ld_blt I hg hm hv ?_)
  refine PyProof.Rows.callWith_type1 ?_ rfl rfl
  show wpAny _ _ (spliced ((false, eval (.Call (.Name "zip" p2) [a, b] [] pos2) X.env) :: backTo pos (starEach [] X.env))) _ _ s
  refine Calls.spliced_cons ?_
  refine Call_ (ld_blt I hg2 hm2 bt_zip' (PyProof.Rows.callWith_type1 (thn (ha pos2 pins s σ H _ I h) fun us s1 ⟨vs, H1, I1, r1, q1⟩ => ?_) (by rw [hs, hs2]) (by rw [hs2]; rfl)))
  obtain ⟨l1, l2, ks, ys, e, hl1, hl2, hlen, q⟩ := q1
  subst e
  cases r1 with
  | cons r rr =>
    cases rr with
    | cons r' rr =>
      cases rr
      cases r
      cases r'
      obtain ⟨z1, its1, n1, rv1, ho1⟩ := I1.hok l1 _ hl1
      obtain ⟨z2, its2, n2, rv2, ho2⟩ := I1.hok l2 _ hl2
      refine call_zip_2 (xs := its1.toArray) (ys := its2.toArray) ⟨_, ho1, rfl, _, rfl⟩ ⟨_, ho2, rfl, _, rfl⟩ fun h' hz hTI hTO hi1 hi2 hsz hk => ?_
      refine Calls.spliced_nil ?_
      have I2 : Inv X pins σ H1 { s1 with heap := h' } := I1.kept (t' := s1.toks) hk
      have hL1 : h'.IsList l1 its1.toArray := ⟨_, hk _ _ ho1, rfl, _, rfl⟩
      have hL2 : h'.IsList l2 its2.toArray := ⟨_, hk _ _ ho2, rfl, _, rfl⟩
      have e1 := rv1.length
      have e2 := rv2.length
      rw [List.length_map] at e1
      let us : List (Key × Value) := (ks.zip its2).map fun p => ((Sum.inl p.1 : Key), p.2)
      have hus : us.length = ks.length := by simp [us]; omega
      have hKV : KV (zipK ks ys) us := by
        have : ∀ (ks : List Int) (ys : List V) (its : List Value), Vals ys its → KV (zipK ks ys) ((ks.zip its).map fun p => ((Sum.inl p.1 : Key), p.2)) := by
          intro ks ys its r
          induction r generalizing ks with
          | nil => cases ks <;> exact .nil
          | cons r1 _ ih =>
            cases ks with
            | nil => exact .nil
            | cons k ks => exact .cons ⟨rfl, r1⟩ (ih ks)
        exact this ks ys its2 rv2
      refine HT.call_dict_zip (knd := mixKind X.prog X.w) (ps := fun j => us.getD j (Sum.inl 0, Value.none)) (I2.ok.hd hc) (Nat.ne_of_lt (Nat.lt_succ_self _)) (Nat.ne_of_lt (Nat.lt_succ_self _)) hz hTI hTO hi1 hi2 hL1 hL2 (by simp; omega) (by simp; omega) (fun j x hx => ?_) (fun j y hy => ?_) fun h3 tk3 hk3 hd3 => ?_
      · have hx' : its1[j]? = some x := by simpa using hx
        have hj : j < its1.length := (List.getElem?_eq_some_iff.mp hx').1
        have hkj : ks[j]? = some (ks[j]'(by omega)) := List.getElem?_eq_getElem (by omega)
        obtain ⟨u, hu, ru⟩ := rv1.get (show (ks.map V.int)[j]? = some (V.int (ks[j]'(by omega))) by rw [List.getElem?_map, hkj]; rfl)
        rw [hx'] at hu
        cases hu
        have huj : us[j]? = some ((Sum.inl (ks[j]'(by omega)) : Key), its2[j]'(by omega)) := by
          simp only [us]
          rw [List.getElem?_map, List.getElem?_zip_eq_some (z := (ks[j]'(by omega), its2[j]'(by omega))) |>.mpr ⟨hkj, List.getElem?_eq_getElem (by omega)⟩]; rfl
        rw [List.getD_eq_getElem?_getD, huj]
        exact kV_is ru
      · have hy' : its2[j]? = some y := by simpa using hy
        have hj : j < its2.length := (List.getElem?_eq_some_iff.mp hy').1
        have hkj : ks[j]? = some (ks[j]'(by omega)) := List.getElem?_eq_getElem (by omega)
        have huj : us[j]? = some ((Sum.inl (ks[j]'(by omega)) : Key), y) := by
          simp only [us]
          rw [List.getElem?_map, List.getElem?_zip_eq_some (z := (ks[j]'(by omega), y)) |>.mpr ⟨hkj, hy'⟩]; rfl
        rw [List.getD_eq_getElem?_getD, huj]; rfl
      · have hn : its1.toArray.size = us.length := by rw [List.size_toArray, hus]; omega
        rw [hn, accP_eq _ us us.length (Nat.le_refl _), List.take_length] at hd3
        have hml := length_merge (zipK ks ys) []
        have hzl : (zipK ks ys).length = ks.length := by simp [zipK]; omega
        rw [List.length_nil, Nat.zero_add, hzl] at hml
        have hge : s1.heap.objs.size ≤ h'.objs.size := by rw [hsz]; exact Nat.le_add_right _ _
        have hbig := I1.big
        refine ⟨.ref h'.objs.size, _, I1.laid (t' := tk3) (o := .dK (mergeK [] (zipK ks ys))) (fun b o e => ?_) hge (dk_new (by omega) ?_ (kv_fold hKV .nil) hd3), rfl, q.at (I1.hok.fresh hge)⟩
        · have hlt := Heap.lt_size e
          have up : ∀ n : Nat, b ≠ s1.heap.objs.size + n := fun n => Nat.ne_of_lt (Nat.lt_of_lt_of_le hlt (Nat.le_add_right _ n))
          exact hk3 b o (up 4) (up 3) (up 0) (up 1) (hk _ _ e)
        · simpa using Nat.ne_of_gt (Nat.lt_of_lt_of_le hbig hge)
theorem qDictZ {a b : Expr} {ta : TA} {p p2 pos pos2 : Pos} (hg : Gl X "dict") (hm : X.mg "dict" = none) (hv : bootBuiltins "dict" = some (.type "dict")) (hg2 : Gl X "zip") (hm2 : X.mg "zip" = none) (ha : QA X [a, b] ta) (h : notStar a = true := by rfl) (h' : notStar b = true := by rfl) (hc : X.calm = true := by rfl) :
    QE X (.Call (.Name "dict" p) [.Call (.Name "zip" p2) [a, b] [] pos2] [] pos) (tDictZ ta) :=
  .mk (pe_dictZ hc hg hm hv hg2 hm2 ha.un (by rw [star_cons h, star_cons h', star_nil]) (by rw [star_cons h', star_nil]))
end
end L3
namespace L3
open PySem PySem.Spec PyProof.Rows L2
section
variable {X : Cx}
theorem sdaug {k : Nat} {o i value : Expr} {td ty tv : TE} {tpos pos : Pos} {A : Around} (hr : Room k A) (ho : QE X o td) (hi : QE X i ty) (hv : QE X value tv)
    (ha : ∀ ov iv new, augStore i ov iv new = (do holding [new, ov, iv] (setItem ov iv new); release [new, ov, iv] []; pure .next) := by intros; rfl) (hA : X.A = A := by rfl) :
    QS X (.AugAssign (.Subscript o i tpos) .Add value pos) (sDAug td ty tv L2.rAdd) := .mk (ps_daug (by rw [hA]; exact hu_of hr) ho.un hi.un hv.un in_add ha)
end
end L3
namespace L3
open PySem PySem.Spec PyProof.Rows L2
def Itw (ob : Obj) (a : Addr) (kvs : List (Key × V)) : It :=
  ⟨fun i H => H a = some (.frz ob (.dK kvs)) ∧ i < kvs.length, fun i H v H' => H' = H ∧ ∃ k, kvs[i]? = some (k, v), fun i H => H a = some (.frz ob (.dK kvs)) ∧ kvs.length ≤ i⟩
theorem kv_at {kvs : List (Key × V)} {vs : List (Key × Value)} (r : KV kvs vs) : ∀ {i : Nat} {k : Key} {v : Value}, vs[i]? = some (k, v) → ∃ x, kvs[i]? = some (k, x) ∧ RelV x v := by
  unfold KV at r
  induction r with
  | nil => intro i k v e; simp at e
  | @cons p q ps qs h t ih =>
    intro i k v e
    cases i with
    | zero =>
      simp at e
      subst e
      obtain ⟨h1, h2⟩ := h
      exact ⟨p.2, by rw [List.getElem?_cons_zero, ← (show p.1 = k from h1)], h2⟩
    | succ i => simpa using ih (by simpa using e)
theorem turn_vals {P : Program} {w : World} {K : PySem.W.Frag} {tg : Expr} (ob : Obj) (a it : Addr) (kvs : List (Key × V)) (hne : a ≠ it) : Turn P w K tg (Itw ob a kvs) [it] it (fun i h => h.IsValIter it a i kvs.length (epOf ob)) where
  mem := by simp
  obj := fun i h st b hb => by
    have e : b = it := by simpa using hb
    subst e
    obtain ⟨o, e, c, d⟩ := st
    exact ⟨o, e, fun v z => by rw [d] at z; cases z⟩
  keep := fun i h h' st k => by
    obtain ⟨o, e, r⟩ := st
    exact ⟨o, k it (by simp) o e, r⟩
  item := by
    intro X hP hw hK hc i pins s σ H E I hf st hg
    subst hP hw hK
    obtain ⟨e, hi⟩ := hg
    obtain ⟨vs, rel, hs, hd⟩ := frz_at I.hok e
    have hlen := rel.length
    obtain ⟨f0, f1, f2, f3, f4, f5⟩ := hf it (by simp)
    obtain ⟨⟨k, y⟩, hk⟩ : ∃ p, vs[i]? = some p := ⟨vs[i]'(by omega), List.getElem?_eq_getElem (by omega)⟩
    obtain ⟨x, hx, rx⟩ := kv_at rel hk
    have st' : s.heap.IsValIter it a i vs.length (epOf ob) := by rw [← hlen]; exact st
    refine wpAny_pyNext_values_item st' hd hk fun h' hit' sb => ?_
    have I1 : Inv X pins σ H { s with heap := h' } := I.turned (t' := s.toks) (fun b o hb e => (sb.2 b hb).trans e) f0 f1 f3 f4 f5
    rw [← hlen] at hit'
    obtain ⟨o, e', c, d⟩ := id hit'
    exact ⟨y, rfl, go_of (s := { s with heap := h' }) e' c d (by decide) ⟨x, H, I1, rx, ⟨rfl, k, hx⟩, hit', fun b hb => (hf b hb).1⟩⟩
  done := by
    intro X hP hw hK hc i pins s σ H E I hf st hg
    subst hP hw hK
    obtain ⟨e, hi⟩ := hg
    obtain ⟨vs, rel, hs, hd⟩ := frz_at I.hok e
    have hlen := rel.length
    obtain ⟨f0, f1, f2, f3, f4, f5⟩ := hf it (by simp)
    have st' : s.heap.IsValIter it a i vs.length (epOf ob) := by rw [← hlen]; exact st
    exact wpAny_pyNext_values_end (I.ok.hd hc) st' hd (List.getElem?_eq_none (by omega)) fun h' eb => ⟨rfl, I.turned (t' := s.toks) (fun b o hb e => eb b o hb e) f0 f1 f3 f4 f5⟩
  self := fun _ _ _ _ _ st h => wpAny_pyIter_valiter st h
section
variable {X : Cx} {tg : Expr}
def iVals (tl : TE) : TI := fun σ H R => tl σ H fun x H1 => ∃ a kvs, x = .ref a ∧ Rd H1 a (.dK kvs) ∧ ∀ ob H4, H4 a = some (.frz ob (.dK kvs)) → Same (rm a H1) H4 → R (Itw ob a kvs) H4
theorem pi_vals {o : Expr} {to : TE} {apos cpos : Pos} (ho : PE X o to) (hbase : attributeBase o "values" X.env (eval o X.env) = eval o X.env := by rfl) (hline : (apos.endLine == cpos.line) = true := by rfl) : PI X tg (.Call (.Attribute o "values" apos) [] [] cpos) (iVals to) := by
  intro pins s σ H R I h
  refine wpAny_Call_method0_late hbase hline (thn (ho pins s σ H _ I h) fun v s1 hh => ?_)
  obtain ⟨x, H1, I1, r1, q1⟩ := hh
  obtain ⟨a, kvs, e, hrd, q⟩ := q1
  subst e
  cases r1
  have key : ∀ (H2 : Hp) (ob : Obj), Inv X pins σ H2 s1 → H2 a = some (.frz ob (.dK kvs)) → R (Itw ob a kvs) H2 → MethodOn X.prog X.w X.A "values" cpos (.ref a) [] (fun v s1 => wpAny (model X.prog X.w) X.A (pyIter v) (PIE X pins σ tg R) X.xe s1) X.xe s1 := fun H2 ob I2 e q => by
    obtain ⟨vs, rel, hs, hd⟩ := frz_at I2.hok e
    have hlen := rel.length
    obtain ⟨o, es, ho', hc', r'⟩ := id hd
    have hD : s1.heap.DictOf (mixKind X.prog X.w) a vs := ⟨o, es, _, ho', hc', r'⟩
    refine ⟨"dict", "dict.values", PySem.F.plainAttrs_dict, PySem.F.slot_dict_values, PySem.F.type_dict_values, ⟨o, ho', hc'.1⟩, fun a' e2 => by cases e2; exact ⟨o, ho', hc'.2.1⟩, Calls.callWith_builtin rfl (PySem.evalArgs_none ?_)⟩
    refine call_meetsIn PySem.F.slot_dict_values hD.typeIs PySem.F.entry_dict_values (PySem.F.args_dict_values_1 _) (meets_dict_values (mixKind X.prog X.w) a hs) ⟨⟨vs, hD⟩, ?_⟩
    have I3 : Inv X pins σ H2 { s1 with heap := s1.heap.push { cls := .type "dict_values", data := .fields #[.ref a] } } := I2.kept (t' := s1.toks) fun b o e => Heap.get?_push_of_some _ e
    obtain ⟨vs3, rel3, _, hd3⟩ := frz_at I3.hok e
    have hlen3 := rel3.length
    refine wpAny_pyIter_values (d := a) ⟨_, Heap.get?_push_size _ rfl, rfl, rfl⟩ hd3 ?_
    refine ⟨_, [(s1.heap.push { cls := .type "dict_values", data := .fields #[.ref a] }).objs.size], _, _, H2, rfl, I3.kept (t' := s1.toks) fun b o e => Heap.get?_push_of_some _ e, turn_vals ob a _ kvs (Nat.ne_of_lt hd3.lt_size), ⟨_, Heap.get?_push_size _ rfl, rfl, by rw [hlen3]; rfl⟩, fun b hb => ?_, q⟩
    rw [List.mem_singleton] at hb
    subst hb
    exact I3.fpOk (Nat.le_refl _) (I3.hok.fresh (Nat.le_refl _))
  rcases hrd with e | ⟨ob, e⟩
  · obtain ⟨z, hs, vs, rel, o, es, ep, ho, r⟩ := (show ObjOk X.prog X.w H1 s1.heap a (.dK kvs) from I1.hok a _ e)
    have I2 : Inv X pins σ (upd H1 a (.frz o (.dK kvs))) { s1 with heap := s1.heap, toks := s1.toks } := I1.write (t' := s1.toks) (by rw [e]; exact True.intro) (.inl rfl) (fun b u _ q => q) ⟨o, ho⟩ ⟨ho, z, hs, vs, rel, o, es, ep, ho, r⟩
    exact key _ o I2 upd_same (q o _ upd_same (same_upd rm_same rm_self))
  · exact key _ ob I1 e (q ob _ e rm_same)
theorem ivals {o : Expr} {to : TE} {apos cpos : Pos} (ho : QE X o to) (hbase : attributeBase o "values" X.env (eval o X.env) = eval o X.env := by rfl) (hline : (apos.endLine == cpos.line) = true := by rfl) : QI X tg (.Call (.Attribute o "values" apos) [] [] cpos) (iVals to) := .mk (pi_vals ho.un hbase hline)
variable {g : TG} {tt : TT} {te : TE} {acc : Addr} {σ0 : L2.St} {H0 : Hp} {Q : Hp → Prop}
theorem comp_vals {ob : Obj} {a : Addr} {kvs : List (Key × V)} (Pv : Nat → List V → L2.St → Hp → Prop) (h0 : Pv 0 [] σ0 H0) (hl : ∀ i ys σ H, Pv i ys σ H → H a = some (.frz ob (.dK kvs)))
    (hs : ∀ i ys k x σ H, kvs[i]? = some (k, x) → i < kvs.length → Pv i ys σ H → g x σ H fun σ2 H2 => tt σ2 H2 fun b H3 => if b = true then te σ2 H3 (CPost Pv acc kvs.length i σ2) else CSkip Pv kvs.length i σ2 H3)
    (hd : ∀ ys σ H, Pv kvs.length ys σ H → Q H) : CompW (Itw ob a kvs) g tt te acc σ0 H0 Q := by
  refine ⟨fun i m σ H => m = kvs.length - i ∧ i ≤ kvs.length ∧ ∃ ys, Pv i ys σ H, ⟨kvs.length, by simp, Nat.zero_le _, [], h0⟩, ?_⟩
  rintro i m σ H ⟨rfl, hi, ys, p⟩
  have q := hl i ys σ H p
  by_cases hlt : i < kvs.length
  · refine .inr ⟨⟨q, hlt⟩, fun x H1 y => ?_⟩
    obtain ⟨e, k, hk⟩ := y
    subst e
    have z := hs i ys k x σ _ hk hlt p
    unfold CPost CSkip at z
    exact z
  · have e : i = kvs.length := by omega
    subst e
    exact .inl ⟨⟨q, Nat.le_refl _⟩, hd ys σ H p⟩
end
end L3
namespace HS
open PySem PySem.W PyProof.Rows
def Good (r : Nat → Nat) (n : Nat) {α : Type} : KasT α → (α → Prop) → Prop
  | .ret a, Q => Q a
  | .ask i j k, Q => i < n ∧ j < n ∧ Good r n (k (decide (r i < r j))) Q
section
variable {r : Nat → Nat} {n : Nat}
theorem Good.mono {α : Type} {Q Q' : α → Prop} (hq : ∀ a, Q a → Q' a) : ∀ {t : KasT α}, Good r n t Q → Good r n t Q'
  | .ret a, h => hq a h
  | .ask _ _ k, h => ⟨h.1, h.2.1, Good.mono hq (t := k _) h.2.2⟩
theorem Good.bind {α β : Type} {f : α → KasT β} {Q : β → Prop} : ∀ {t : KasT α}, Good r n t (fun a => Good r n (f a) Q) → Good r n (t.bind f) Q
  | .ret _, h => h
  | .ask _ _ k, h => ⟨h.1, h.2.1, Good.bind (t := k _) h.2.2⟩
theorem Good.yes {α : Type} {Q : α → Prop} {t u : KasT α} {c : Prop} [Decidable c] (hc : c) (h : Good r n t Q) : Good r n (if decide c = true then t else u) Q := by
  rw [if_pos (decide_eq_true hc)]; exact h
theorem Good.no {α : Type} {Q : α → Prop} {t u : KasT α} {c : Prop} [Decidable c] (hc : ¬ c) (h : Good r n u Q) : Good r n (if decide c = true then t else u) Q := by
  rw [if_neg (by simpa using hc)]; exact h
def R (r : Nat → Nat) (p : Array Nat) (i : Nat) : Nat := r (p.getD i 0)
theorem R_of {p q : Array Nat} {i j : Nat} (h : p[i]? = q[j]?) : R r p i = R r q j := by
  unfold R
  rw [Array.getD_eq_getD_getElem?, Array.getD_eq_getD_getElem?, h]
def Ar (n : Nat) (p : Array Nat) : Prop := p.toList.Perm (List.range n)
theorem Ar.size {p : Array Nat} (h : Ar n p) : p.size = n := by
  have := h.length_eq
  rw [List.length_range, Array.length_toList] at this
  exact this
theorem Ar.lt {p : Array Nat} (h : Ar n p) (h0 : 0 < n) (i : Nat) : p.getD i 0 < n := by
  rw [Array.getD_eq_getD_getElem?]
  by_cases hi : i < p.size
  · rw [getElem?_pos p i hi]
    have : p[i] ∈ p.toList := by simp
    exact List.mem_range.mp (h.mem_iff.mp this)
  · rw [getElem?_neg p i hi]; exact h0
theorem Ar.perm {p q : Array Nat} (h : Ar n p) (e : q.Perm p) : Ar n q := (Array.perm_iff_toList_perm.mp e).trans h
def Srt (r : Nat → Nat) (p : Array Nat) (m : Nat) : Prop := ∀ i j, i ≤ j → j < m → R r p i ≤ R r p j
def Dsc (r : Nat → Nat) (p : Array Nat) (m : Nat) : Prop := ∀ i j, i ≤ j → j < m → R r p j ≤ R r p i
theorem R_rev {p : Array Nat} {i j : Nat} (hj : j ≤ p.size) (k : Nat) : R r (kas_rev p i j) k = if i ≤ k ∧ k < j then R r p (i + j - 1 - k) else R r p k := by
  have e := getElem?_mirror_all (i := i) hj k
  by_cases c : i ≤ k ∧ k < j
  · rw [if_pos c] at e ⊢; exact R_of e
  · rw [if_neg c] at e ⊢; exact R_of e
theorem R_rev_eq {p : Array Nat} {i j : Nat} (hj : j ≤ p.size) (he : ∀ k, i ≤ k → k < j → R r p k = R r p (j - 1)) (k : Nat) : R r (kas_rev p i j) k = R r p k := by
  rw [R_rev hj]
  by_cases c : i ≤ k ∧ k < j
  · rw [if_pos c, he _ (by omega) (by omega), he k c.1 c.2]
  · rw [if_neg c]
theorem rev_perm (p : Array Nat) (i j : Nat) : (kas_rev p i j).Perm p := mirror_perm _ _ _ _
theorem good_asc {p : Array Nat} {Q : Nat → Prop} (hp : Ar n p) (h0 : 0 < n) : ∀ (f m : Nat), 1 ≤ m → Srt r p m →
    (∀ k, m ≤ k → k ≤ m + f → Srt r p k → (k = m + f ∨ R r p k < R r p (k - 1)) → Q k) → Good r n (kas_asc p f m) Q
  | 0, m, _, hs, h => h m (Nat.le_refl _) (Nat.le_refl _) hs (.inl rfl)
  | f + 1, m, h1, hs, h => by
    refine ⟨hp.lt h0 _, hp.lt h0 _, ?_⟩
    by_cases c : R r p m < R r p (m - 1)
    · refine Good.yes c ?_
      exact h m (Nat.le_refl _) (by omega) hs (.inr c)
    · refine Good.no c ?_
      refine good_asc hp h0 f (m + 1) (by omega) (fun i j a b => ?_) fun k a b => h k (by omega) (by omega) |> fun z s o => z s (o.imp (fun e => by omega) id)
      by_cases e : j = m
      · subst e
        by_cases e2 : i = j
        · rw [e2]; exact Nat.le_refl _
        · have := hs i (j - 1) (by omega) (by omega)
          omega
      · exact hs i j a (by omega)
def Alk (r : Nat → Nat) (p : Array Nat) (m q : Nat) : Prop := ∀ k, m - (q + 1) ≤ k → k < m → R r p k = R r p (m - 1)
theorem good_desc {Q : Array Nat × Nat × Nat → Prop} (h0 : 0 < n) : ∀ (f : Nat) (p : Array Nat) (m q : Nat), Ar n p → q + 1 ≤ m → m + f ≤ n → Dsc r p m → Alk r p m q →
    (∀ p' m' q', Ar n p' → q' + 1 ≤ m' → m ≤ m' → m' ≤ m + f → Dsc r p' m' → Alk r p' m' q' → Q (p', m', q')) → Good r n (kas_desc f p m q) Q
  | 0, p, m, q, hp, a, _, hd, he, h => h p m q hp a (Nat.le_refl _) (Nat.le_refl _) hd he
  | f + 1, p, m, q, hp, a, b, hd, he, h => by
    have hz := hp.size
    refine ⟨hp.lt h0 _, hp.lt h0 _, ?_⟩
    by_cases c : R r p m < R r p (m - 1)
    · refine Good.yes c ?_
      have hd' : Dsc r p (m + 1) := fun i j x y => by
        by_cases e : j = m
        · subst e
          by_cases e2 : i = j
          · rw [e2]; exact Nat.le_refl _
          · have := hd i (j - 1) (by omega) (by omega)
            omega
        · exact hd i j x (by omega)
      by_cases g : q > 0
      · rw [if_pos g]
        have hr : ∀ k, R r (kas_rev p (m - (q + 1)) m) k = R r p k := R_rev_eq (by omega) he
        refine good_desc h0 f _ (m + 1) 0 (hp.perm (rev_perm _ _ _)) (by omega) (by omega) (fun i j x y => ?_) (fun k x y => ?_) fun p' m' q' x1 x2 x3 x4 => h p' m' q' x1 x2 (by omega) (by omega)
        · rw [hr, hr]; exact hd' i j x y
        · have : k = m + 1 - 1 := by omega
          rw [this]
      · rw [if_neg g]
        refine good_desc h0 f _ (m + 1) 0 hp (by omega) (by omega) hd' (fun k x y => ?_) fun p' m' q' x1 x2 x3 x4 => h p' m' q' x1 x2 (by omega) (by omega)
        have : k = m + 1 - 1 := by omega
        rw [this]
    · refine Good.no c ?_
      refine ⟨hp.lt h0 _, hp.lt h0 _, ?_⟩
      by_cases c2 : R r p (m - 1) < R r p m
      · refine Good.yes c2 ?_
        exact h p m q hp a (Nat.le_refl _) (by omega) hd he
      · refine Good.no c2 ?_
        refine good_desc h0 f _ (m + 1) (q + 1) hp (by omega) (by omega) (fun i j x y => ?_) (fun k x y => ?_) fun p' m' q' x1 x2 x3 x4 => h p' m' q' x1 x2 (by omega) (by omega)
        · by_cases e : j = m
          · subst e
            by_cases e2 : i = j
            · rw [e2]; exact Nat.le_refl _
            · have := hd i (j - 1) (by omega) (by omega)
              omega
          · exact hd i j x (by omega)
        · rw [show m + 1 - 1 = m by omega]
          by_cases e : k = m
          · rw [e]
          · have := he k (by omega) (by omega)
            omega
theorem good_tail3 {p : Array Nat} {m : Nat} {Q : Nat × Array Nat → Prop} (hp : Ar n p) (h0 : 0 < n) (h1 : 1 ≤ m) (hm : m ≤ n) (hd : Dsc r p m)
    (h : ∀ k p', 1 ≤ k → k ≤ n → Ar n p' → Srt r p' k → Q (k, p')) : Good r n (kas_tail3 m n p) Q := by
  have hz := hp.size
  refine Good.bind (good_asc (hp.perm (rev_perm _ _ _)) h0 (n - m) m h1 (fun i j a b => ?_) fun k a b s _ => h k _ (by omega) (by omega) (hp.perm (rev_perm _ _ _)) s)
  rw [R_rev (by omega), R_rev (by omega), if_pos ⟨Nat.zero_le _, by omega⟩, if_pos ⟨Nat.zero_le _, b⟩]
  exact hd _ _ (by omega) (by omega)
theorem good_descPart {p : Array Nat} {m : Nat} {Q : Nat × Array Nat → Prop} (hp : Ar n p) (h0 : 0 < n) (hm : m + 1 ≤ n) (hd : Dsc r p (m + 1))
    (h : ∀ k p', 1 ≤ k → k ≤ n → Ar n p' → Srt r p' k → Q (k, p')) : Good r n (kas_descPart m n p) Q := by
  refine Good.bind (good_desc h0 _ p (m + 1) 0 hp (by omega) (by omega) hd (fun k x y => ?_) fun p' m' q' x1 x2 x3 x4 x5 x6 => ?_)
  · have : k = m + 1 - 1 := by omega
    rw [this]
  · have hz := x1.size
    show Good r n (if q' > 0 then _ else _) Q
    by_cases g : q' > 0
    · rw [if_pos g]
      have hr : ∀ k, R r (kas_rev p' (m' - (q' + 1)) m') k = R r p' k := R_rev_eq (by omega) x6
      exact good_tail3 (m := m') (x1.perm (rev_perm _ _ _)) h0 (by omega) (by omega) (fun i j x y => by rw [hr, hr]; exact x5 i j x y) h
    · rw [if_neg g]
      exact good_tail3 (m := m') x1 h0 (by omega) (by omega) x5 h
theorem good_count {p : Array Nat} {Q : Nat × Array Nat → Prop} (hp : Ar n p) (h0 : 0 < n)
    (h : ∀ k p', 1 ≤ k → k ≤ n → Ar n p' → Srt r p' k → Q (k, p')) : Good r n (kas_count n p) Q := by
  have hz := hp.size
  refine Good.bind (good_asc hp h0 (n - 1) 1 (Nat.le_refl _) (fun i j a b => by rw [show i = j by omega]; exact Nat.le_refl _) fun m a b s o => ?_)
  by_cases e : m = n
  · rw [if_pos (by rw [e]; exact beq_self_eq_true _)]
    exact h m p a (by omega) hp s
  · rw [if_neg (by simpa using e)]
    have hl : R r p m < R r p (m - 1) := o.resolve_left (by omega)
    by_cases g : m > 1
    · rw [if_pos g]
      refine ⟨hp.lt h0 _, hp.lt h0 _, ?_⟩
      by_cases c : R r p 0 < R r p (m - 1)
      · refine Good.yes c ?_
        exact h m p a (by omega) hp s
      · refine Good.no c ?_
        have al : ∀ k, 0 ≤ k → k < m → R r p k = R r p (m - 1) := fun k _ hk => by
          have a1 := s 0 k (by omega) hk
          have a2 := s k (m - 1) (by omega) (by omega)
          omega
        have hr : ∀ k, R r (kas_rev p 0 m) k = R r p k := R_rev_eq (by omega) al
        refine good_descPart (hp.perm (rev_perm _ _ _)) h0 (by omega) (fun i j x y => ?_) h
        rw [hr, hr]
        by_cases e3 : j = m
        · subst e3
          by_cases e2 : i = j
          · rw [e2]; exact Nat.le_refl _
          · rw [al i (by omega) (by omega)]; omega
        · rw [al i (by omega) (by omega), al j (by omega) (by omega)]; exact Nat.le_refl _
    · rw [if_neg g]
      refine good_descPart hp h0 (by omega) (fun i j x y => ?_) h
      by_cases e2 : i = j
      · rw [e2]; exact Nat.le_refl _
      · have ei : i = m - 1 := by omega
        have ej : j = m := by omega
        rw [ei, ej]; omega
theorem good_place {p : Array Nat} {k : Nat} {Q : Nat → Prop} (hp : Ar n p) (h0 : 0 < n) (hs : Srt r p k)
    (h : ∀ l, l ≤ k → (∀ i, i < l → R r p i ≤ R r p k) → (∀ i, l ≤ i → i < k → R r p k < R r p i) → Q l) :
    ∀ (f a b : Nat), a ≤ b → b ≤ k → b - a ≤ f → (∀ i, i < a → R r p i ≤ R r p k) → (∀ i, b ≤ i → i < k → R r p k < R r p i) → Good r n (kas_place p k f a b) Q
  | 0, a, b, x, y, z, u, v => h a (by omega) u fun i c => v i (by omega)
  | f + 1, a, b, x, y, z, u, v => by
    unfold kas_place
    by_cases g : a ≥ b
    · rw [if_pos g]; exact h a (by omega) u fun i c => v i (by omega)
    · rw [if_neg g]
      refine ⟨hp.lt h0 _, hp.lt h0 _, ?_⟩
      by_cases c : R r p k < R r p ((a + b) / 2)
      · refine Good.yes c ?_
        refine good_place hp h0 hs h f a ((a + b) / 2) (by omega) (by omega) (by omega) u fun i d e => ?_
        have := hs ((a + b) / 2) i d e
        omega
      · refine Good.no c ?_
        refine good_place hp h0 hs h f ((a + b) / 2 + 1) b (by omega) (by omega) (by omega) (fun i d => ?_) v
        have := hs i ((a + b) / 2) (by omega) (by omega)
        omega
theorem good_bin {Q : Array Nat → Prop} (h0 : 0 < n) (h : ∀ p, Ar n p → Srt r p n → Q p) : ∀ (f : Nat) (p : Array Nat) (k : Nat), k + f = n → Ar n p → Srt r p k → Good r n (kas_bin f p k) Q
  | 0, p, k, e, hp, hs => h p hp (by rw [← e]; exact hs)
  | f + 1, p, k, e, hp, hs => by
    have hz := hp.size
    refine Good.bind (good_place hp h0 hs (fun l hl u v => ?_) k 0 k (Nat.zero_le _) (Nat.le_refl _) (by omega) (fun i c => by omega) fun i c d => by omega)
    have hb : ∀ i, R r (bubble p k (k - l)) i = if i = l then R r p k else if l < i ∧ i ≤ k then R r p (i - 1) else R r p i := fun i => by
      have e := getElem?_bubble (xs := p) (src := k) (by omega) (k - l) (by omega) i
      rw [show k - (k - l) = l by omega] at e
      by_cases c : i = l
      · rw [if_pos c] at e ⊢; exact R_of e
      · rw [if_neg c] at e ⊢
        by_cases d : l < i ∧ i ≤ k
        · rw [if_pos d] at e ⊢; exact R_of e
        · rw [if_neg d] at e ⊢; exact R_of e
    refine good_bin h0 h f _ (k + 1) (by omega) (hp.perm (bubble_perm _ _ _)) fun i j a b => ?_
    rw [hb, hb]
    by_cases c1 : i = l
    · rw [if_pos c1]
      by_cases c2 : j = l
      · rw [if_pos c2]; exact Nat.le_refl _
      · rw [if_neg c2, if_pos ⟨by omega, by omega⟩]
        exact Nat.le_of_lt (v (j - 1) (by omega) (by omega))
    · rw [if_neg c1]
      by_cases d1 : l < i ∧ i ≤ k
      · rw [if_pos d1, if_neg (by omega), if_pos ⟨by omega, by omega⟩]
        exact hs _ _ (by omega) (by omega)
      · rw [if_neg d1]
        by_cases c2 : j = l
        · rw [if_pos c2]; exact u i (by omega)
        · rw [if_neg c2]
          by_cases d2 : l < j ∧ j ≤ k
          · rw [if_pos d2]; exact hs _ _ (by omega) (by omega)
          · rw [if_neg d2]; exact hs _ _ (by omega) (by omega)
theorem good_sort {Q : Array Nat → Prop} (h0 : 0 < n) (h : ∀ p, Ar n p → Srt r p n → Q p) : Good r n (kas_sort n) Q := by
  refine Good.bind (good_count (p := List.toArray (List.range n)) (.refl _) h0 fun k p' a b hp s => ?_)
  by_cases c : k < n
  · rw [if_pos c]
    exact good_bin h0 h _ p' _ (by omega) hp (by rw [show max k 1 = k by omega]; exact s)
  · rw [if_neg c]
    exact h p' hp (by rw [show n = k by omega]; exact s)
theorem Good.wp {α : Type} {Q : α → Prop} {G : α → Shared → Prop} {cmp : Nat → Nat → (Bool → Shared → Prop) → Shared → Prop} {s : Shared} (hq : ∀ a, Q a → G a s)
    (hc : ∀ i j (C : Bool → Shared → Prop), i < n → j < n → C (decide (r i < r j)) s → cmp i j C s) : ∀ {t : KasT α}, Good r n t Q → t.kasWp cmp G s
  | .ret a, h => hq a h
  | .ask _ _ k, h => hc _ _ _ h.1 h.2.1 (Good.wp hq hc (t := k _) h.2.2)
end
end HS
namespace HS
open PySem PySem.W PyProof.Rows
theorem lex_irr : ∀ x : List Int, HT.lexLt x x = false
  | [] => rfl
  | a :: x => by rw [HT.lexLt_cons, if_pos rfl]; exact lex_irr x
theorem lex_trans : ∀ {x y z : List Int}, HT.lexLt x y = true → HT.lexLt y z = true → HT.lexLt x z = true
  | [], [], _, h, _ => by cases h
  | _ :: _, [], _, h, _ => by cases h
  | [], _ :: _, [], _, h => by cases h
  | _ :: _, _ :: _, [], _, h => by cases h
  | [], _ :: _, _ :: _, _, _ => rfl
  | a :: x, b :: y, c :: z, h, g => by
    rw [HT.lexLt_cons] at h g ⊢
    by_cases e : a = b
    · rw [if_pos e] at h
      by_cases e2 : b = c
      · rw [if_pos e2] at g; rw [if_pos (e.trans e2)]; exact lex_trans h g
      · rw [if_neg e2] at g; rw [if_neg (by omega)]; have := of_decide_eq_true g; exact decide_eq_true (by omega)
    · rw [if_neg e] at h
      have h := of_decide_eq_true h
      by_cases e2 : b = c
      · rw [if_neg (by omega)]; exact decide_eq_true (by omega)
      · rw [if_neg e2] at g; have := of_decide_eq_true g; rw [if_neg (by omega)]; exact decide_eq_true (by omega)
theorem lex_tot : ∀ {x y : List Int}, HT.lexLt x y = false → HT.lexLt y x = false → x = y
  | [], [], _, _ => rfl
  | [], _ :: _, h, _ => by cases h
  | _ :: _, [], _, h => by cases h
  | a :: x, b :: y, h, g => by
    rw [HT.lexLt_cons] at h g
    by_cases e : a = b
    · subst e; rw [if_pos rfl] at h g; rw [lex_tot h g]
    · rw [if_neg e] at h; rw [if_neg (fun q => e q.symm)] at g
      have h := of_decide_eq_false h
      have g := of_decide_eq_false g
      omega
def rk (L : List (List Int)) (i : Nat) : Nat := L.countP fun x => HT.lexLt x (L.getD i [])
theorem countP_lt {α : Type} {p q : α → Bool} : ∀ {l : List α} {a : α}, (∀ x ∈ l, p x = true → q x = true) → a ∈ l → p a = false → q a = true → l.countP p < l.countP q
  | x :: l, a, h, ha, hp, hq => by
    have hl : l.countP p ≤ l.countP q := List.countP_mono_left fun y hy => h y (.tail _ hy)
    rw [List.countP_cons, List.countP_cons]
    rcases List.mem_cons.mp ha with rfl | ha
    · rw [hp, hq]; simp only [Bool.false_eq_true, if_false, if_true]; omega
    · have ih := countP_lt (fun y hy => h y (.tail _ hy)) ha hp hq
      have hx := h x (.head _)
      cases hpx : p x with
      | false => simp only [Bool.false_eq_true, if_false]; omega
      | true => rw [hx hpx]; omega
theorem rk_lt {L : List (List Int)} {i j : Nat} (hi : i < L.length) (hj : j < L.length) : decide (rk L i < rk L j) = HT.lexLt (L.getD i []) (L.getD j []) := by
  have mi : L.getD i [] ∈ L := by rw [List.getD_eq_getElem?_getD, List.getElem?_eq_getElem hi]; exact List.getElem_mem hi
  have mj : L.getD j [] ∈ L := by rw [List.getD_eq_getElem?_getD, List.getElem?_eq_getElem hj]; exact List.getElem_mem hj
  have up : ∀ {x y : List Int}, x ∈ L → HT.lexLt x y = true → L.countP (fun z => HT.lexLt z x) < L.countP (fun z => HT.lexLt z y) := fun hx h =>
    countP_lt (fun z _ hz => lex_trans hz h) hx (lex_irr _) h
  cases c : HT.lexLt (L.getD i []) (L.getD j []) with
  | true => exact decide_eq_true (up mi c)
  | false =>
    refine decide_eq_false ?_
    unfold rk
    cases d : HT.lexLt (L.getD j []) (L.getD i []) with
    | true => have := up mj d; omega
    | false => rw [lex_tot c d]; omega
section
variable {prog : Program} {w : World} {A : Around} {E : Value → Shared → Prop} {s : Shared}
def Asks (prog : Program) (w : World) (A : Around) (vs : List Value) (r : Nat → Nat) (s : Shared) : Prop :=
  wpAny (model prog w) A (keyKind' vs.toArray) (fun κ s' => s' = s ∧ ∀ i j (C : Bool → Shared → Prop), i < vs.length → j < vs.length → C (decide (r i < r j)) s → kas_ask prog w A κ vs i j C s) (fun _ _ => False) s
def outOf (vs : List Value) (p : Array Nat) : List Value := p.toList.map fun i => vs.getD i Value.none
theorem out_short (vs : List Value) (h : vs.length < 2) : ((vs.toArray.zip vs.toArray).map (·.2)) = (outOf vs (List.toArray (List.range vs.length))).toArray := by
  unfold outOf
  cases vs with
  | nil => simp
  | cons v vs =>
    cases vs with
    | nil => simp
    | cons _ _ => exact absurd h (by simp)
theorem lsort {a : Addr} {vs : List Value} {n : Nat} {P : PySem.Fin → Shared → Prop} {r : Nat → Nat} (at_a : s.heap.get? a = some (seqObj "list" vs.toArray n)) (few : vs.length < 64)
    (asks : 2 ≤ vs.length → ∀ h', (∀ b o, b ≠ a → s.heap.get? b = some o → h'.get? b = some o) → Asks prog w A vs r { s with heap := h' })
    (fin : ∀ p, Ar vs.length p → Srt r p vs.length → P (.done (.ret .none)) { s with heap := sortedHeap s.heap a vs (outOf vs p).toArray }) : wpAny (model prog w) A (Builtin.«list.sort» ⟨[.ref a], []⟩) P E s := by
  have la : a < s.heap.objs.size := Heap.lt_size at_a
  have sl : vs.length ≤ sizeLine := by rw [sizeLine_eq]; omega
  obtain ⟨e1, at1⟩ : ∃ e1, (s.heap.update a (Obj.mapSeq fun _ => #[])).get? a = some (seqObj "list" #[] e1) := ⟨_, get?_update_seq at_a fun _ => #[]⟩
  have at6 : (((s.heap.update a (Obj.mapSeq fun _ => #[])).push (seqObj "tuple" vs.toArray 0)).push (seqObj "list" #[] 0)).get? a = some (seqObj "list" #[] e1) :=
    Heap.get?_push_of_some _ (Heap.get?_push_of_some _ at1)
  have old : ∀ b o, b ≠ a → s.heap.get? b = some o → (((s.heap.update a (Obj.mapSeq fun _ => #[])).push (seqObj "tuple" vs.toArray 0)).push (seqObj "list" #[] 0)).get? b = some o := fun b o hb q =>
    Heap.get?_push_of_some _ (Heap.get?_push_of_some _ (by rw [Heap.get?_update_ne _ _ _ _ hb]; exact q))
  have len : ∀ p, Ar vs.length p → (outOf vs p).toArray.size ≤ sizeLine + 1 := fun p hp => by
    rw [List.size_toArray]; unfold outOf; rw [List.length_map, Array.length_toList, hp.size]; omega
  rw [list_sort_plain]
  refine wpAny_bind (listItems_at at_a rfl (wpAny_bind (listUpdate_at at_a rfl ?_ (by rw [List.size_toArray]; exact sl) (Nat.zero_le _))))
  refine wpAny_bind (seqEpoch_at at1 rfl (wpAny_bind (wpAny_newTuple (wpAny_bind (wpAny_newList (wpAny_holding ?_) (Nat.zero_le _))) (by simpa using sl))))
  show wpAny (model prog w) A _ P E { s with heap := ((s.heap.update a (Obj.mapSeq fun _ => #[])).push (seqObj "tuple" vs.toArray 0)).push (seqObj "list" #[] 0) }
  dsimp only
  by_cases two : vs.toArray.size < 2
  · rw [if_pos two, if_pos two]
    have two' : vs.length < 2 := by simpa using two
    refine wpAny_bind (wpAny_pure ?_)
    rw [StateT.run_pure]
    refine wpAny_bind (wpAny_pure ?_)
    have hp : Ar vs.length (List.toArray (List.range vs.length)) := .refl _
    have out : (arrOf (SortSt.mk' general' (vs.toArray.zip vs.toArray) #[] 7 none)).map (·.2) = (outOf vs (List.toArray (List.range vs.length))).toArray := by
      show ((vs.toArray.zip vs.toArray).map (·.2)) = _
      exact out_short vs two'
    dsimp only
    refine wpAny_bind (seqEpoch_at at6 rfl ?_)
    rw [out]
    refine wpAny_bind (listUpdate_at at6 rfl ?_ (Nat.zero_le _) (len _ hp))
    simp only [bne_self_eq_false, Bool.false_eq_true, if_false]
    exact wpAny_pure (fin _ hp fun i j x y => by rw [show i = j by omega]; exact Nat.le_refl _)
  · rw [if_neg two, if_neg two]
    have two' : 2 ≤ vs.length := by
      rw [List.size_toArray] at two; omega
    refine wpAny_bind (wpAny_mono (asks two' _ old) (fun κ s' hk => ?_) fun _ _ x => x.elim)
    obtain ⟨rfl, hk⟩ := hk
    refine wpAny_bind (wpAny_mono (kat_run (ks := vs) (vs := vs) (κ := κ)
      (Q := fun st s' => s' = { s with heap := ((s.heap.update a (Obj.mapSeq fun _ => #[])).push (seqObj "tuple" vs.toArray 0)).push (seqObj "list" #[] 0) } ∧ ∃ p, Ar vs.length p ∧ Srt r p vs.length ∧ arrOf st = p.map (kas_item (vs.toArray.zip vs.toArray)) ∧ failedOf st = none)
      (G := fun p s' => s' = { s with heap := ((s.heap.update a (Obj.mapSeq fun _ => #[])).push (seqObj "tuple" vs.toArray 0)).push (seqObj "list" #[] 0) } ∧ Ar vs.length p ∧ Srt r p vs.length)
      rfl two' few (fun p st s' _ b c d => ⟨d.1, p, d.2.1, d.2.2, b, c⟩) (Good.wp (n := vs.length) (r := r) (Q := fun p => Ar vs.length p ∧ Srt r p vs.length) (fun p q => ⟨rfl, q⟩) hk (good_sort (by omega) fun p x y => ⟨x, y⟩))) ?_ fun _ _ x => x)
    rintro ⟨⟨⟩, st⟩ s' ⟨rfl, p, hp, hs, ha, hf⟩
    dsimp only
    refine wpAny_bind (seqEpoch_at at6 rfl ?_)
    rw [kat_snds rfl ha]
    refine wpAny_bind (listUpdate_at at6 rfl ?_ (Nat.zero_le _) (len p hp))
    rw [hf]
    simp only [bne_self_eq_false, Bool.false_eq_true, if_false]
    exact wpAny_pure (fin p hp hs)
theorem gsorted {l : Addr} {vs : List Value} {Q : Value → Shared → Prop} {r : Nat → Nat} (hl : s.heap.IsList l vs.toArray) (few : vs.length < 64)
    (asks : 2 ≤ vs.length → ∀ h', (∀ b o, s.heap.get? b = some o → h'.get? b = some o) → Asks prog w A.in1.in1 vs r { s with heap := h' })
    (fin : ∀ p, Ar vs.length p → Srt r p vs.length → Q (.ref (s.heap.objs.size + 1)) { s with heap := sortedAll s.heap vs (outOf vs p).toArray }) : wpAny (model prog w) A (call (.builtin "sorted") [.ref l]) Q E s := by
  have sl : vs.length ≤ sizeLine := by rw [sizeLine_eq]; omega
  refine Calls.call_function_entry kind_sorted plain_sorted entry_sorted (args_sorted1 _) ?_
  unfold Builtin.«sorted»
  refine wpAny_bind (m := checkCount "sorted" 1 1 _) (wpAny_pure (wpAny_bind (collect_list hl (wpAny_bind (wpAny_newList ?_ sl)) sl)))
  have z : ((s.heap.push (seqObj "list" #[] 0)).update s.heap.objs.size (Obj.mapSeq (· ++ vs.toArray))).objs.size = s.heap.objs.size + 1 := by
    rw [Heap.size_update, size_push']
  have at1 : (((s.heap.push (seqObj "list" #[] 0)).update s.heap.objs.size (Obj.mapSeq (· ++ vs.toArray))).push (seqObj "list" vs.toArray 0)).get? (s.heap.objs.size + 1) = some (seqObj "list" vs.toArray 0) := by
    rw [← z]; exact Heap.get?_push_size _ rfl
  have old : ∀ b o, s.heap.get? b = some o → (((s.heap.push (seqObj "list" #[] 0)).update s.heap.objs.size (Obj.mapSeq (· ++ vs.toArray))).push (seqObj "list" vs.toArray 0)).get? b = some o := fun b o q => by
    have lb : b < s.heap.objs.size := Heap.lt_size q
    exact Heap.get?_push_of_some _ (by rw [Heap.get?_update_ne _ _ _ _ (Nat.ne_of_lt lb)]; exact Heap.get?_push_of_some _ q)
  show wpAny _ _ _ _ _ { s with heap := ((s.heap.push (seqObj "list" #[] 0)).update s.heap.objs.size (Obj.mapSeq (· ++ vs.toArray))).push (seqObj "list" vs.toArray 0) }
  rw [z]
  refine wpAny_bind (wpAny_holding (wpAny_call_entry slot_list_sort ⟨_, at1, rfl⟩ entry_list_sort (lsort at1 few (fun t h' k => asks t h' fun b o q => k b o (Nat.ne_of_lt (Nat.lt_succ_of_lt (Heap.lt_size q))) (old b o q)) fun p x y => ⟨_, rfl, ?_⟩) (args_list_sort _)))
  exact wpAny_pure ⟨_, rfl, fin p x y⟩
inductive F2 {α β : Type} (R : α → β → Prop) : List α → List β → Prop where
  | nil : F2 R [] []
  | cons {a : α} {b : β} {as : List α} {bs : List β} : R a b → F2 R as bs → F2 R (a :: as) (b :: bs)
theorem F2.length_eq {α β : Type} {R : α → β → Prop} {as : List α} {bs : List β} (h : F2 R as bs) : as.length = bs.length := by
  induction h with
  | nil => rfl
  | cons _ _ ih => rw [List.length_cons, List.length_cons, ih]
theorem F2.imp {α β : Type} {R S : α → β → Prop} (f : ∀ a b, R a b → S a b) {as : List α} {bs : List β} (h : F2 R as bs) : F2 S as bs := by
  induction h with
  | nil => exact .nil
  | cons r _ ih => exact .cons (f _ _ r) ih
end
theorem srt_pairs {α : Type} {zs : List (α × List Int)} {p : Array Nat} (d : α × List Int) (hp : Ar zs.length p) (hs : Srt (rk (zs.map (·.2))) p zs.length) :
    (p.toList.map fun i => zs.getD i d).Perm zs ∧ (p.toList.map fun i => zs.getD i d).Pairwise fun a b => HT.lexLt b.2 a.2 = false := by
  have hz := hp.size
  constructor
  · refine (hp.map _).trans (List.Perm.of_eq ?_)
    refine List.ext_getElem (by simp) fun i h1 h2 => ?_
    simp [List.getD_eq_getElem?_getD, h2]
  · rw [List.pairwise_iff_getElem]
    intro i j hi hj hij
    simp only [List.length_map, Array.length_toList] at hi hj
    have gi : ∀ k (hk : k < p.size), p.toList[k]'(by simpa using hk) = p.getD k 0 := fun k hk => by simp [Array.getD, hk]
    simp only [List.getElem_map]
    rw [gi i hi, gi j hj]
    have h0 : 0 < zs.length := by omega
    have li := hp.lt h0 i
    have lj := hp.lt h0 j
    have le : rk (zs.map (·.2)) (p.getD i 0) ≤ rk (zs.map (·.2)) (p.getD j 0) := hs i j (by omega) (by omega)
    have q := rk_lt (L := zs.map (·.2)) (i := p.getD j 0) (j := p.getD i 0) (by simpa using lj) (by simpa using li)
    rw [decide_eq_false (by omega)] at q
    have sn : ∀ k, k < zs.length → (zs.map (·.2)).getD k [] = (zs.getD k d).2 := fun k hk => by simp [List.getD_eq_getElem?_getD, hk]
    rw [sn _ lj, sn _ li] at q
    exact q.symm
end HS
namespace L3
open PySem PySem.Spec PyProof.Rows L2
section
variable {X : Cx}
theorem vals_rf : ∀ {α : Type} {f : α → Addr} (zs : List α), Vals (zs.map fun z => V.ref (f z)) (zs.map fun z => Value.ref (f z))
  | _, _, [] => .nil
  | _, _, _ :: zs => .cons rfl (vals_rf zs)
theorem vals_rf_inv : ∀ {α : Type} {f : α → Addr} {zs : List α} {us : List Value}, Vals (zs.map fun z => V.ref (f z)) us → us = zs.map fun z => Value.ref (f z)
  | _, _, [], _, .nil => rfl
  | _, _, _ :: _, _, .cons h t => by cases h; rw [vals_rf_inv t]; rfl
end
end L3
namespace HS
open PySem PySem.W PyProof.Rows
theorem ints_get : ∀ {vs : List Value} {ns : List Int}, IntsAre vs ns → ∀ j (h : j < ns.length), ∃ t, vs[j]? = some (.int ns[j] t)
  | _, _, .cons n t _, 0, _ => ⟨t, rfl⟩
  | _, _, .cons n t r, j + 1, h => by simpa using ints_get r j (by simpa using h)
section
open PySem.SeqAt
open PySem.AutoSeq1 (wpAny_loadPart')
open PySem.MeetsSeq PySem.MeetsSeq2 PySem.MeetsSeq3
theorem lt_loop (l b : Addr) (items items2 : Array Value) (n n2 : Nat) (dd dd2 : Option Addr) (sl sl2 : Array (Option Value)) (ns ms : List Int) (hi : IntsAre items.toList ns) (hj : IntsAre items2.toList ms) (k : Nat) :
    ∀ i : Nat, items.size - i = k → i ≤ items.size → i ≤ items2.size → Meets (Builtin.«list.__eq__.loop» ⟨[.ref l, .ref b, rawInt i, rawInt 0], []⟩)
      (fun _ R s => s.heap.get? l = some { cls := .type "list", dict := dd, data := .seq items n, slots := sl } ∧ s.heap.get? b = some { cls := .type "list", dict := dd2, data := .seq items2 n2, slots := sl2 } ∧
        R (.ok (.ret (.bool (HT.lexLt (ns.drop i) (ms.drop i))))) s) := by
  have z1 : items.size = ns.length := by rw [← hi.length]; simp
  have z2 : items2.size = ms.length := by rw [← hj.length]; simp
  have at1 : ∀ j (h : j < ns.length), ∃ t, items[j]? = some (.int ns[j] t) := fun j h => by
    obtain ⟨t, ht⟩ := ints_get hi j h
    exact ⟨t, by rw [← Array.getElem?_toList]; exact ht⟩
  have at2 : ∀ j (h : j < ms.length), ∃ t, items2[j]? = some (.int ms[j] t) := fun j h => by
    obtain ⟨t, ht⟩ := ints_get hj j h
    exact ⟨t, by rw [← Array.getElem?_toList]; exact ht⟩
  induction k with
  | zero =>
    intro i hk h1 h2 prog w A R s h
    obtain ⟨hp, g, d, tk, os⟩ := s; obtain ⟨hl, hb, h⟩ := h
    wp_walk using wpAny_loadPart' hl, wpAny_loadPart' hb
    have hi1 : items[((i : Nat) : Int).toNat]? = none := by simp; omega
    rw [List.drop_eq_nil_of_le (by omega)] at h
    rw [hi1]
    wp_walk using wpAny_loadPart' hl, wpAny_loadPart' hb
    show R (.ok (.ret (.bool (decide (items.size < items2.size))))) _
    cases hm : ms.drop i with
    | nil =>
      rw [hm] at h
      have : ms.length ≤ i := List.drop_eq_nil_iff.mp hm
      rw [decide_eq_false (by omega)]
      exact h
    | cons y ys =>
      rw [hm] at h
      have : (ms.drop i).length = ys.length + 1 := by rw [hm]; rfl
      rw [List.length_drop] at this
      rw [decide_eq_true (by omega)]
      exact h
  | succ k ih =>
    intro i hk h1 h2 prog w A R s h
    obtain ⟨hp, g, d, tk, os⟩ := s; obtain ⟨hl, hb, h⟩ := h
    wp_walk using wpAny_loadPart' hl, wpAny_loadPart' hb
    have hlt : i < ns.length := by omega
    obtain ⟨t, ht⟩ := at1 i hlt
    have hi1 : items[((i : Nat) : Int).toNat]? = some (.int ns[i] t) := ht
    rw [hi1]
    rw [List.drop_eq_getElem_cons hlt] at h
    by_cases hlt2 : i < ms.length
    · obtain ⟨u, hu⟩ := at2 i hlt2
      have hi2 : items2[((i : Nat) : Int).toNat]? = some (.int ms[i] u) := hu
      rw [hi2]
      rw [List.drop_eq_getElem_cons hlt2, HT.lexLt_cons] at h
      have hc : ((i : Int) + 1) = ((i + 1 : Nat) : Int) := by push_cast; rfl
      refine wpAny_bind (wpAny_eqBool_int ?_)
      by_cases e : ns[i] = ms[i]
      · rw [if_pos e] at h
        rw [show (ns[i] == ms[i]) = true by simpa using e]
        wp_walk
        rw [hc]
        exact ⟨plainId_quiet plain_eq_loop _, codeAny_builtin entry_eq_loop (by
          rw [Around.under_plainId plain_eq_loop _]
          exact ih (i + 1) (by omega) (by omega) (by omega) prog w A R _ ⟨hl, hb, h⟩)⟩
      · rw [if_neg e] at h
        rw [show (ns[i] == ms[i]) = false by simpa using e]
        wp_walk using wpAny_loadPart' hl, wpAny_loadPart' hb
        rw [hi1, hi2]
        have hri := HT.rcLt_int A.in1 ⟨hp, g, d, tk, os⟩ ns[i] t ms[i] u prog w
        wp_walk using hri
        exact h
    · have hi2 : items2[((i : Nat) : Int).toNat]? = none := by
        show items2[i]? = none
        simp; omega
      rw [hi2]
      rw [List.drop_eq_nil_of_le (by omega : ms.length ≤ i)] at h
      wp_walk using wpAny_loadPart' hl, wpAny_loadPart' hb
      show R (.ok (.ret (.bool (decide (items.size < items2.size))))) _
      rw [decide_eq_false (by omega)]
      exact h
theorem list_lt_ints (l b : Addr) (items items2 : Array Value) (n n2 : Nat) (dd dd2 : Option Addr) (sl sl2 : Array (Option Value)) (ns ms : List Int) (hi : IntsAre items.toList ns) (hj : IntsAre items2.toList ms) :
    Meets (Builtin.«list.__lt__» ⟨[.ref l, .ref b], []⟩)
      (fun _ R s => s.heap.get? l = some { cls := .type "list", dict := dd, data := .seq items n, slots := sl } ∧ s.heap.get? b = some { cls := .type "list", dict := dd2, data := .seq items2 n2, slots := sl2 } ∧
        R (.ok (.ret (.bool (HT.lexLt ns ms)))) s) := by
  intro prog w A R s h
  obtain ⟨hp, g, d, tk, os⟩ := s; obtain ⟨hl, hb, h⟩ := h
  have f3 := AutoSeq1.sub_list_list
  wp_walk using wpAny_loadPart' hl, wpAny_loadPart' hb
  exact ⟨plainId_quiet plain_eq_loop _, codeAny_builtin entry_eq_loop (by
    rw [Around.under_plainId plain_eq_loop _]
    exact lt_loop l b items items2 n n2 dd dd2 sl sl2 ns ms hi hj _ 0 rfl (Nat.zero_le _) (Nat.zero_le _) prog w A R _ ⟨hl, hb, h⟩)⟩
end
section
variable {prog : Program} {w : World} {A : Around} {E : Value → Shared → Prop} {s : Shared}
def LstIs (h : Heap) (v : Value) (ns : List Int) : Prop := ∃ a its, v = .ref a ∧ h.IsList a its ∧ IntsAre its.toList ns
theorem LstIs.kept {h h' : Heap} {v : Value} {ns : List Int} (t : LstIs h v ns) (k : ∀ b o, h.get? b = some o → h'.get? b = some o) : LstIs h' v ns := by
  obtain ⟨a, its, rfl, ⟨o, q, c⟩, i⟩ := t
  exact ⟨a, its, rfl, ⟨o, k a o q, c⟩, i⟩
theorem one_list {x y : Value} {ns ms : List Int} {Q : Bool → Shared → Prop} (hx : LstIs s.heap x ns) (hy : LstIs s.heap y ms) (hu : A.units < cLine) (h : Q (HT.lexLt ns ms) s) : wpAny (model prog w) A (oneLt' true x y) Q E s := by
  obtain ⟨a, its, rfl, ⟨⟨cls, dd, data, sl⟩, ho, hc, n, hd⟩, hi⟩ := hx
  obtain ⟨b, its2, rfl, ⟨⟨cls2, dd2, data2, sl2⟩, ho2, hc2, n2, hd2⟩, hj⟩ := hy
  simp only at hc hd hc2 hd2
  subst hc hd hc2 hd2
  rw [oneLt'_eq]
  simp only [if_true]
  refine wpAny_bind (wpAny_cRoomFor hu ?_)
  refine wpAny_bind (wpAny_callSpecialIfBound?_slot ⟨_, ho, rfl⟩ PySem.F.slot_list_lt (call_meets PySem.F.slot_list_lt ⟨_, ho, rfl⟩ PySem.F.entry_list_lt (PySem.F.args_list_lt_2 _ _) (list_lt_ints a b its its2 n n2 dd dd2 sl sl2 ns ms hi hj) ⟨ho, ho2, ?_⟩))
  exact wpAny_truthy_bool h
theorem lst_getD {h : Heap} : ∀ {vs : List Value} {L : List (List Int)}, F2 (LstIs h) vs L → ∀ i, i < vs.length → LstIs h (vs.getD i .none) (L.getD i [])
  := by
  intro vs L t
  induction t with
  | nil => intro i hi; cases hi
  | cons t r ih =>
    intro i hi
    cases i with
    | zero => exact t
    | succ i => simpa using ih i (by simpa using hi)
theorem lst_ty {h : Heap} : ∀ {vs : List Value} {L : List (List Int)}, F2 (LstIs h) vs L → ∀ v ∈ vs, Looks (model prog w) h (typeOf v) (.type "list")
  := by
  intro vs L t
  induction t with
  | nil => intro v hv; cases hv
  | cons t r ih =>
    intro v hv
    rcases List.mem_cons.mp hv with rfl | hv
    · obtain ⟨a, its, rfl, ⟨o, ho, hc, _⟩, _⟩ := t
      rw [← hc]
      exact (Looks.ld ho).andThen .now
    · exact ih v hv
theorem asks_lists {vs : List Value} {L : List (List Int)} (t : F2 (LstIs s.heap) vs L) (two : 2 ≤ vs.length) (hu : A.units < cLine) : Asks prog w A vs (rk L) s := by
  have hl : vs.length = L.length := t.length_eq
  refine kas_kind (T := .type "list") two (lst_ty t) rfl rfl ⟨rfl, fun i j C hi hj hc => ?_⟩
  rw [rk_lt (by omega) (by omega)] at hc
  unfold kas_ask
  rw [keyLt'_oneType]
  exact one_list (lst_getD t i hi) (lst_getD t j hj) hu hc
theorem sorted_lists {l : Addr} {vs : List Value} {L : List (List Int)} {Q : Value → Shared → Prop} (hl : s.heap.IsList l vs.toArray) (few : vs.length < 64) (t : F2 (LstIs s.heap) vs L) (hu : A.units + 2 < cLine)
    (fin : ∀ p, Ar vs.length p → Srt (rk L) p vs.length → Q (.ref (s.heap.objs.size + 1)) { s with heap := sortedAll s.heap vs (outOf vs p).toArray }) : wpAny (model prog w) A (call (.builtin "sorted") [.ref l]) Q E s :=
  gsorted hl few (fun two h' k => asks_lists (t.imp fun _ _ q => q.kept k) two (by show A.units + 1 + 1 < cLine; omega)) fin
end
end HS
namespace L3
open PySem PySem.Spec PyProof.Rows L2
section
variable {X : Cx}
def rSortLL (K : PySem.W.Frag) : List V → Hp → VK → Prop := fun xs H Q => ∃ (p : Addr) (zs : List (Addr × List Int)), xs = [.ref p] ∧ SqL K H p (zs.map fun z => V.ref z.1) ∧ zs.length < 64 ∧ (∀ z ∈ zs, H z.1 = some (.lst (z.2.map V.int))) ∧
  ∀ (q : Addr) (H' : Hp) (ys : List (Addr × List Int)), H q = none → Same H H' → H' q = some (.lst (ys.map fun z => V.ref z.1)) → (∀ b, b ≠ q → H' b = H b) → ys.Perm zs → ys.Pairwise (fun a b => HT.lexLt b.2 a.2 = false) → Q (.ref q) H'
theorem call_sortLL (hu : X.A.units + 2 < cLine) : CallR X (.builtin "sorted") (rSortLL X.K) := by
  intro pins s σ H xs us Q I rv h
  obtain ⟨p, zs, rfl, hp, hn, ht, q⟩ := h
  obtain ⟨u, rfl, ru⟩ := vals1 rv
  cases ru
  obtain ⟨its, r, pl, hz⟩ := I.list hp
  have hi := vals_rf_inv r
  subst hi
  have tt : HS.F2 (HS.LstIs s.heap) (zs.map fun z => Value.ref z.1) (zs.map (·.2)) := by
    clear hp r pl hz hn q rv
    induction zs with
    | nil => exact .nil
    | cons z zs ih =>
      refine .cons ?_ (ih fun y hy => ht y (.tail _ hy))
      obtain ⟨its, r1, p1, _⟩ := I.list (show SqL X.K H z.1 (z.2.map V.int) from SqL.of (ht z (.head _)))
      exact ⟨_, _, rfl, p1.isList, by simpa using intsAre_of r1⟩
  have len : (zs.map fun z => Value.ref z.1).length = zs.length := List.length_map ..
  refine HS.sorted_lists pl.isList (by omega) tt hu fun pp a1 a2 => ?_
  rw [len] at a1 a2
  obtain ⟨b1, b2⟩ := HS.srt_pairs (0, []) a1 a2
  obtain ⟨e, he⟩ := sortedAll_at s.heap (zs.map fun z => Value.ref z.1) (HS.outOf (zs.map fun z => Value.ref z.1) pp).toArray
  have hf : H (s.heap.objs.size + 1) = none := I.hok.fresh (Nat.le_succ _)
  have out : HS.outOf (zs.map fun z => Value.ref z.1) pp = (pp.toList.map fun i => zs.getD i (0, [])).map fun z => Value.ref z.1 := by
    unfold HS.outOf
    rw [List.map_map]
    refine List.map_congr_left fun i hi => ?_
    have : i < zs.length := List.mem_range.mp (a1.mem_iff.mp hi)
    simp [List.getD_eq_getElem?_getD, this]
  have ln : (pp.toList.map fun i => zs.getD i (0, [])).length = zs.length := b1.length_eq
  refine ⟨.ref (s.heap.objs.size + 1), _, I.laid (t' := s.toks) (o := .lst ((pp.toList.map fun i => zs.getD i (0, [])).map fun z => V.ref z.1)) (fun b ob q => sortedAll_old q) (Nat.le_succ _)
    ⟨by rw [List.length_map, ln]; exact Nat.le_of_lt (Nat.lt_of_lt_of_le hn (by decide)), _, e, vals_rf (f := fun z : Addr × List Int => z.1) _, by rw [← out]; exact he⟩, rfl, q _ _ _ hf (same_new hf) upd_same (fun b hb => upd_ne hb) b1 b2⟩
theorem fSortLL {k : Nat} {A : Around} (K : PySem.W.Frag) (hr : Room k A) (hA : X.A = A := by rfl) (hK : X.K = K := by rfl) : RCall X (.builtin "sorted") (rSortLL K) := by subst hK; exact .mk (call_sortLL (by rw [hA]; have := hu_n hr; omega))
end
end L3
namespace L3
open PySem PySem.Spec PyProof.Rows L2
section
variable {X : Cx}
def rAnyB (K : PySem.W.Frag) : List V → Hp → VK → Prop := fun xs H Q => ∃ (p : Addr) (bs : List Bool), xs = [.ref p] ∧ SqL K H p (bs.map V.bl) ∧ Q (.bl (bs.any id)) H
theorem any_range : ∀ (bs : List Bool), (List.range bs.length).any (fun i => bs.getD i true) = bs.any id
  | [] => rfl
  | b :: r => by
    rw [List.length_cons, List.range_succ_eq_map, List.any_cons, List.any_map, List.any_cons]
    have := any_range r
    congr 1
theorem call_anyB (hc : X.calm = true) : CallR X (.builtin "any") (rAnyB X.K) := by
  intro pins s σ H xs us Q I rv h
  obtain ⟨p, bs, rfl, hp, q⟩ := h
  obtain ⟨u, rfl, ru⟩ := vals1 rv
  cases ru
  obtain ⟨its, r, pl, hz⟩ := I.list hp
  have hlen := r.length
  rw [List.length_map] at hlen
  have hlt : p < s.heap.objs.size := by obtain ⟨_, e, _⟩ := pl.isList; exact Heap.lt_size e
  refine call_any_walk (wpAny_pyIter_list pl.isList ?_)
  refine ⟨s.heap.objs.size, _, _, _, _, _, fun i => bs.getD i true, rfl, Walks.list (A := X.A.in1) (I.ok.hd hc) _ p (Nat.ne_of_lt hlt) its.toArray, ⟨⟨_, Heap.get?_push_size _ rfl, rfl, rfl⟩, pl.isList.push _⟩, ?_, fun h' tk hk => ?_⟩
  · intro i v s' Q' E' hP hQ
    have hP : its[i]? = some v := by simpa using hP
    have hi : i < its.length := (List.getElem?_eq_some_iff.mp hP).1
    have e1 : (bs.map V.bl)[i]? = some (V.bl (bs[i]'(by omega))) := by
      rw [List.getElem?_map, List.getElem?_eq_getElem (by omega)]; rfl
    obtain ⟨u, hu, ru⟩ := r.get e1
    rw [hP] at hu
    cases hu
    cases (show v = Value.bool _ from ru)
    refine wpAny_truthy_bool ?_
    have e2 : bs.getD i true = bs[i]'(by omega) := by rw [List.getD_eq_getElem?_getD, List.getElem?_eq_getElem (by omega)]; rfl
    rw [← e2]; exact hQ
  · refine ⟨.bl (bs.any id), H, ?_, ?_, q⟩
    · exact I.kept (t' := tk) fun b o e => hk b o (by simp; exact Nat.ne_of_lt (Heap.lt_size e)) (Heap.get?_push_of_some _ e)
    · show Value.bool _ = Value.bool _
      rw [List.size_toArray, ← hlen, any_range]
theorem bt_any : bootBuiltins "any" = some (.builtin "any") := by decide +kernel
theorem fAny (K : PySem.W.Frag) (hc : X.calm = true := by rfl) (hK : X.K = K := by rfl) : RCall X (.builtin "any") (rAnyB K) := by subst hK; exact .mk (call_anyB hc)
end
section
variable {prog : Program} {w : World} {A : Around} {E : Value → Shared → Prop} {s : Shared}
def TAt (h : Heap) (i l : Addr) (xs : Array Value) (k : Nat) : Prop := h.IsTupleIter i l k ∧ h.IsTuple l xs
theorem TAt.but {h h' : Heap} {i l b : Addr} {xs : Array Value} {k : Nat} (x : TAt h i l xs k) (e : Heap.ExtBut b h h') (h1 : i ≠ b) (h2 : l ≠ b) : TAt h' i l xs k := ⟨x.1.extBut e h1, x.2.extBut e h2⟩
theorem ask_tup {i l : Addr} {xs : Array Value} {k : Nat} {x : Value} {Q : Value → Shared → Prop} (hi : TAt s.heap i l xs k) (hil : l ≠ i) (hx : xs[k]? = some x)
    (hQ : ∀ h', TAt h' i l xs (k + 1) → Heap.SameBut i s.heap h' → Q x { s with heap := h' }) : wpAny (model prog w) A (Builtin.SmallTypes.nextOf (.ref i)) Q E s := by
  obtain ⟨hit, ht⟩ := id hi
  obtain ⟨o, ho, hc, hd⟩ := id hit
  obtain ⟨ol, hol, _, nl, hdl⟩ := id ht
  unfold Builtin.SmallTypes.nextOf
  refine wpAny_bind (wpAny_callSpecial?_slot (name := Str.ofString "__next__") hit.typeIs F.slot_tuple_iterator_next (wpAny_call_entry F.slot_tuple_iterator_next hit.typeIs F.entry_tuple_iterator_next ?_ (F.args_tuple_iterator_next_1 _)))
  refine wpAny_bind (m := field (.ref i) 0) (wpAny_field ho hd (x := .ref l) rfl ?_)
  refine wpAny_bind (m := field (.ref i) 1) (wpAny_field ho hd (x := .int k 0) rfl ?_)
  refine wpAny_bind (m := seqItems? (.ref l)) (wpAny_seqItems hol hdl ?_)
  simp only [Int.toNat_natCast, hx]
  refine wpAny_bind (wpAny_setField ho hd (by simp) (wpAny_pure ⟨x, rfl, wpAny_pure (hQ _ ⟨?_, ht.extBut (Heap.SameBut.update ..).extBut hil⟩ (Heap.SameBut.update ..))⟩))
  exact ⟨_, Heap.get?_update_self _ ho (Obj.isFreed_of_fields (Obj.data_mapFields hd _)), (Obj.cls_mapFields ..).trans hc, by rw [Obj.data_mapFields hd]; simp [rawInt]⟩
theorem ask_tup_end {i l : Addr} {xs : Array Value} {k : Nat} {Q : Value → Shared → Prop} (hh : A.handled = none) (hi : TAt s.heap i l xs k) (hx : xs[k]? = none)
    (hE : ∀ h' e, Heap.ExtBut i s.heap h' → (∃ o, h'.get? e = some o ∧ o.cls = .type "StopIteration") → E (.ref e) { s with heap := h' }) : wpAny (model prog w) A (Builtin.SmallTypes.nextOf (.ref i)) Q E s := by
  obtain ⟨hit, ht⟩ := id hi
  obtain ⟨o, ho, hc, hd⟩ := id hit
  obtain ⟨ol, hol, _, nl, hdl⟩ := id ht
  unfold Builtin.SmallTypes.nextOf
  refine wpAny_bind (wpAny_callSpecial?_slot (name := Str.ofString "__next__") hit.typeIs F.slot_tuple_iterator_next (wpAny_call_entry F.slot_tuple_iterator_next hit.typeIs F.entry_tuple_iterator_next ?_ (F.args_tuple_iterator_next_1 _)))
  refine wpAny_bind (m := field (.ref i) 0) (wpAny_field ho hd (x := .ref l) rfl ?_)
  refine wpAny_bind (m := field (.ref i) 1) (wpAny_field ho hd (x := .int k 0) rfl ?_)
  refine wpAny_bind (m := seqItems? (.ref l)) (wpAny_seqItems hol hdl ?_)
  simp only [Int.toNat_natCast, hx]
  refine wpAny_bind (wpAny_rule (wpAny_bind (wpAny_setField ho hd (by simp) ?_)))
  refine wpAny_bind (m := newExc (.type "StopIteration") []) ?_
  simp only [newExc, newTuple]
  refine wpAny_bind (wpAny_newObj_type ?_ (by size_fits))
  refine wpAny_bind (m := firstArgMember _ _) (wpAny_of_eq (a := Value.none) (by first | rfl | (simp only [firstArgMember]; rfl)) ?_)
  refine wpAny_newObj_type ?_ (by size_fits)
  simp only [raiseNew]
  refine wpAny_bind (wpAny_handled ?_)
  first | rw [show A.in1.handled = none from hh] | rw [hh]
  exact wpAny_bind (wpAny_pure (wpAny_throw (hE _ _ (((Heap.SameBut.update ..).extBut.push _).push _) ⟨_, Heap.get?_push_size _ rfl, rfl⟩)))
end
end L3
namespace L3
open PySem PySem.Spec PyProof.Rows L2
section
variable {prog : Program} {w : World} {A : Around} {E : Value → Shared → Prop} {s : Shared}
theorem zipT_item {z TI TO i1 i2 l1 l2 : Addr} {k1 k2 : Nat} {xs ys : Array Value} {x y a b : Value} {Q : Value → Shared → Prop} (D : ZipApart z TI TO i1 i2 l1 l2)
    (hz : IsZip s.heap z TI TO .none) (hTI : IsPair s.heap TI (.ref i1) (.ref i2)) (hTO : IsPair s.heap TO a b) (h1 : TAt s.heap i1 l1 xs k1) (h2 : TAt s.heap i2 l2 ys k2) (hx : xs[k1]? = some x) (hy : ys[k2]? = some y)
    (hQ : ∀ h', IsZip h' z TI TO (rawInt s.heap.objs.size) → IsPair h' TO x y → TAt h' i1 l1 xs (k1 + 1) → TAt h' i2 l2 ys (k2 + 1) → IsPair h' s.heap.objs.size x y → h'.objs.size = s.heap.objs.size + 1 →
      (∀ c o, c ≠ z → c ≠ TO → c ≠ i1 → c ≠ i2 → s.heap.get? c = some o → h'.get? c = some o) → Q (.ref s.heap.objs.size) { s with heap := h' }) :
    wpAny (model prog w) A (Builtin.«zip.__next__» ⟨[.ref z], []⟩) (fun fin s' => ∃ v, fin = .done (.ret v) ∧ Q v s') E s := by
  refine wpAny_bind (m := field (.ref z) 2) (wpAny_field hz rfl (x := .bool false) rfl ?_)
  refine wpAny_bind (m := field (.ref z) 3) (wpAny_field hz rfl (x := .ref TI) rfl ?_)
  refine wpAny_bind (wpAny_seqItems hTI rfl ?_)
  refine wpAny_bind (m := Builtin.SmallTypes.ownedTupleIsFree (.ref z)) ?_
  unfold Builtin.SmallTypes.ownedTupleIsFree
  refine wpAny_bind (wpAny_field hz rfl (x := .none) rfl (wpAny_pure ?_))
  simp only [if_true]
  refine wpAny_bind (wpAny_rule ?_)
  refine wpAny_bind (wpAny_field hz rfl (x := .ref TO) rfl ?_)
  refine wpAny_bind (wpAny_setField_rec hz (by simp) fun g1 z1 e1 => ?_)
  refine wpAny_bind ?_
  simp only [List.zipIdx_cons, List.zipIdx_nil, List.forIn_cons, List.forIn_nil]
  -- the first
  refine wpAny_bind (wpAny_bind (wpAny_onRaise ?_))
  refine wpAny_bind (m := Builtin.SmallTypes.nextOf (.ref i1)) (ask_tup (h1.but e1.extBut D.i1z D.l1z) D.l1i1 hx fun g2 a2 e2 => wpAny_pure ?_)
  have t2 : IsPair g2 TO a b := e2.extBut _ _ D.TOi1 (e1.extBut _ _ D.TOz hTO)
  refine wpAny_bind (wpAny_seqItems t2 rfl ?_)
  refine wpAny_bind (wpAny_updateSeq_pair t2 fun g3 t3 e3 => ?_)
  replace t3 : IsPair g3 TO x b := t3
  refine wpAny_bind (wpAny_letGo (wpAny_pure ?_))
  -- the second
  refine wpAny_bind (wpAny_bind (wpAny_onRaise ?_))
  refine wpAny_bind (m := Builtin.SmallTypes.nextOf (.ref i2)) (ask_tup (((h2.but e1.extBut D.i2z D.l2z).but e2.extBut D.i12.symm D.l2i1).but e3.extBut D.TOi2.symm D.l2TO) D.l2i2 hy fun g4 a4 e4 => wpAny_pure ?_)
  have t4 : IsPair g4 TO x b := e4.extBut _ _ D.TOi2 t3
  refine wpAny_bind (wpAny_seqItems t4 rfl ?_)
  refine wpAny_bind (wpAny_updateSeq_pair t4 fun g5 t5 e5 => ?_)
  replace t5 : IsPair g5 TO x y := t5
  refine wpAny_bind (wpAny_letGo (wpAny_pure (wpAny_pure ?_)))
  -- its own tuple is handed out
  refine wpAny_bind (wpAny_seqItems t5 rfl ?_)
  refine wpAny_bind (wpAny_newTuple ?_)
  have sz : g5.objs.size = s.heap.objs.size := by rw [e5.1, e4.1, e3.1, e2.1, e1.1]
  have z5 : IsZip g5 z TI TO .ellipsis := e5.extBut _ _ D.TOz.symm (e4.extBut _ _ D.i2z.symm (e3.extBut _ _ D.TOz.symm (e2.extBut _ _ D.i1z.symm z1)))
  have k5 : ∀ c o, c ≠ z → c ≠ TO → c ≠ i1 → c ≠ i2 → s.heap.get? c = some o → g5.get? c = some o := fun c o c1 c2 c3 c4 e => e5.extBut _ _ c2 (e4.extBut _ _ c4 (e3.extBut _ _ c2 (e2.extBut _ _ c3 (e1.extBut _ _ c1 e))))
  have a5 : TAt g5 i1 l1 xs (k1 + 1) := ((a2.but e3.extBut D.TOi1.symm D.l1TO).but e4.extBut D.i12 D.l1i2).but e5.extBut D.TOi1.symm D.l1TO
  have b5 : TAt g5 i2 l2 ys (k2 + 1) := a4.but e5.extBut D.TOi2.symm D.l2TO
  have zlt : z < g5.objs.size := Heap.lt_size z5
  refine wpAny_bind (m := Builtin.SmallTypes.ownedTupleHandOut (.ref z) (.ref g5.objs.size)) ?_
  unfold Builtin.SmallTypes.ownedTupleHandOut
  have z6 : IsZip (g5.push { cls := .type "tuple", data := .seq #[x, y] }) z TI TO .ellipsis := Heap.get?_push_of_some _ z5
  refine wpAny_bind (wpAny_setField_rec z6 (by simp) fun g7 z7 e7 => ?_)
  replace z7 : IsZip g7 z TI TO (rawInt g5.objs.size) := z7
  refine wpAny_setField_rec z7 (by simp) fun g8 z8 e8 => ?_
  replace z8 : IsZip g8 z TI TO (rawInt g5.objs.size) := z8
  have up : Heap.ExtBut z g5 g8 := fun c o c1 e => e8.extBut _ _ c1 (e7.extBut _ _ c1 (Heap.get?_push_of_some _ e))
  have t8 : IsPair g8 g5.objs.size x y := e8.extBut _ _ (Nat.ne_of_gt zlt) (e7.extBut _ _ (Nat.ne_of_gt zlt) (Heap.get?_push_size _ rfl))
  have s8 : g8.objs.size = g5.objs.size + 1 := by rw [e8.1, e7.1, Heap.size_push]
  rw [sz] at z8 t8 s8
  refine wpAny_pure ⟨_, rfl, ?_⟩
  show Q (.ref g5.objs.size) _
  rw [sz]
  exact hQ g8 z8 (up _ _ D.TOz t5) (a5.but up D.i1z D.l1z) (b5.but up D.i2z D.l2z) t8 s8 fun c o c1 c2 c3 c4 e => up c o c1 (k5 c o c1 c2 c3 c4 e)
theorem zipT_end {z TI TO i1 i2 l1 l2 : Addr} {k1 k2 : Nat} {xs ys : Array Value} {a b : Value} {Q : Fin → Shared → Prop} (hh : A.handled = none) (D : ZipApart z TI TO i1 i2 l1 l2)
    (hz : IsZip s.heap z TI TO .none) (hTI : IsPair s.heap TI (.ref i1) (.ref i2)) (hTO : IsPair s.heap TO a b) (h1 : TAt s.heap i1 l1 xs k1) (h2 : TAt s.heap i2 l2 ys k2) (hend : xs[k1]? = none ∨ ys[k2]? = none)
    (hE : ∀ h' e, (∀ c o, c ≠ z → c ≠ TO → c ≠ i1 → c ≠ i2 → s.heap.get? c = some o → h'.get? c = some o) → (∃ o, h'.get? e = some o ∧ o.cls = .type "StopIteration") → E (.ref e) { s with heap := h' }) :
    wpAny (model prog w) A (Builtin.«zip.__next__» ⟨[.ref z], []⟩) Q E s := by
  refine wpAny_bind (m := field (.ref z) 2) (wpAny_field hz rfl (x := .bool false) rfl ?_)
  refine wpAny_bind (m := field (.ref z) 3) (wpAny_field hz rfl (x := .ref TI) rfl ?_)
  refine wpAny_bind (wpAny_seqItems hTI rfl ?_)
  refine wpAny_bind (m := Builtin.SmallTypes.ownedTupleIsFree (.ref z)) ?_
  unfold Builtin.SmallTypes.ownedTupleIsFree
  refine wpAny_bind (wpAny_field hz rfl (x := .none) rfl (wpAny_pure ?_))
  simp only [if_true]
  refine wpAny_bind (wpAny_rule ?_)
  refine wpAny_bind (wpAny_field hz rfl (x := .ref TO) rfl ?_)
  refine wpAny_bind (wpAny_setField_rec hz (by simp) fun g1 z1 e1 => ?_)
  refine wpAny_bind ?_
  simp only [List.zipIdx_cons, List.zipIdx_nil, List.forIn_cons, List.forIn_nil]
  refine wpAny_bind (wpAny_bind (wpAny_onRaise ?_))
  cases hx : xs[k1]? with
  | none =>
    refine wpAny_bind (m := Builtin.SmallTypes.nextOf (.ref i1)) (ask_tup_end hh (h1.but e1.extBut D.i1z D.l1z) hx fun g2 e e2 hh => ?_)
    obtain ⟨oe, hoe, hce⟩ := hh
    have z2 : IsZip g2 z TI TO .ellipsis := e2 _ _ D.i1z.symm z1
    have hez : e ≠ z := fun q => by subst q; rw [z2] at hoe; cases hoe; simp at hce
    exact wpAny_setField_rec z2 (by simp) fun g3 _ e3 => hE g3 e (fun c o c1 _ c3 _ q => e3.extBut _ _ c1 (e2 _ _ c3 (e1.extBut _ _ c1 q))) ⟨oe, e3.extBut _ _ hez hoe, hce⟩
  | some x =>
    have hy : ys[k2]? = none := by
      rcases hend with h | h
      · rw [hx] at h; cases h
      · exact h
    refine wpAny_bind (m := Builtin.SmallTypes.nextOf (.ref i1)) (ask_tup (h1.but e1.extBut D.i1z D.l1z) D.l1i1 hx fun g2 a2 e2 => wpAny_pure ?_)
    have t2 : IsPair g2 TO a b := e2.extBut _ _ D.TOi1 (e1.extBut _ _ D.TOz hTO)
    refine wpAny_bind (wpAny_seqItems t2 rfl ?_)
    refine wpAny_bind (wpAny_updateSeq_pair t2 fun g3 t3 e3 => ?_)
    refine wpAny_bind (wpAny_letGo (wpAny_pure ?_))
    refine wpAny_bind (wpAny_bind (wpAny_onRaise ?_))
    refine wpAny_bind (m := Builtin.SmallTypes.nextOf (.ref i2)) (ask_tup_end hh (((h2.but e1.extBut D.i2z D.l2z).but e2.extBut D.i12.symm D.l2i1).but e3.extBut D.TOi2.symm D.l2TO) hy fun g4 e e4 hh => ?_)
    obtain ⟨oe, hoe, hce⟩ := hh
    have z4 : IsZip g4 z TI TO .ellipsis := e4 _ _ D.i2z.symm (e3.extBut _ _ D.TOz.symm (e2.extBut _ _ D.i1z.symm z1))
    have hez : e ≠ z := fun q => by subst q; rw [z4] at hoe; cases hoe; simp at hce
    exact wpAny_setField_rec z4 (by simp) fun g5 _ e5 => hE g5 e (fun c o c1 c2 c3 c4 q => e5.extBut _ _ c1 (e4 _ _ c4 (e3.extBut _ _ c2 (e2.extBut _ _ c3 (e1.extBut _ _ c1 q))))) ⟨oe, e5.extBut _ _ hez hoe, hce⟩
theorem nextZT_item {z TI TO i1 i2 l1 l2 : Addr} {k1 k2 : Nat} {xs ys : Array Value} {x y a b : Value} {Q : Option Value → Shared → Prop} (D : ZipApart z TI TO i1 i2 l1 l2)
    (hz : IsZip s.heap z TI TO .none) (hTI : IsPair s.heap TI (.ref i1) (.ref i2)) (hTO : IsPair s.heap TO a b) (h1 : TAt s.heap i1 l1 xs k1) (h2 : TAt s.heap i2 l2 ys k2) (hx : xs[k1]? = some x) (hy : ys[k2]? = some y)
    (hQ : ∀ h', IsZip h' z TI TO (rawInt s.heap.objs.size) → IsPair h' TO x y → TAt h' i1 l1 xs (k1 + 1) → TAt h' i2 l2 ys (k2 + 1) → IsPair h' s.heap.objs.size x y → h'.objs.size = s.heap.objs.size + 1 →
      (∀ c o, c ≠ z → c ≠ TO → c ≠ i1 → c ≠ i2 → s.heap.get? c = some o → h'.get? c = some o) → Q (some (.ref s.heap.objs.size)) { s with heap := h' }) : wpAny (model prog w) A (pyNext (.ref z)) Q E s := by
  have hT : s.TypeIs (.ref z) "zip" := ⟨_, hz, rfl⟩
  unfold pyNext
  exact wpAny_bind (wpAny_attempt (wpAny_callSpecial?_slot (name := Str.ofString "__next__") hT F.slot_zip_next (wpAny_call_entry F.slot_zip_next hT F.entry_zip_next (zipT_item D hz hTI hTO h1 h2 hx hy fun h' a1 a2 a3 a4 a5 a6 a7 => wpAny_pure (hQ h' a1 a2 a3 a4 a5 a6 a7)) (F.args_zip_next_1 _))))
theorem nextZT_end {z TI TO i1 i2 l1 l2 : Addr} {k1 k2 : Nat} {xs ys : Array Value} {a b : Value} {Q : Option Value → Shared → Prop} (hh : A.handled = none) (D : ZipApart z TI TO i1 i2 l1 l2)
    (hz : IsZip s.heap z TI TO .none) (hTI : IsPair s.heap TI (.ref i1) (.ref i2)) (hTO : IsPair s.heap TO a b) (h1 : TAt s.heap i1 l1 xs k1) (h2 : TAt s.heap i2 l2 ys k2) (hend : xs[k1]? = none ∨ ys[k2]? = none)
    (hQ : ∀ h', (∀ c o, c ≠ z → c ≠ TO → c ≠ i1 → c ≠ i2 → s.heap.get? c = some o → h'.get? c = some o) → Q none { s with heap := h' }) : wpAny (model prog w) A (pyNext (.ref z)) Q E s := by
  have hT : s.TypeIs (.ref z) "zip" := ⟨_, hz, rfl⟩
  unfold pyNext
  refine wpAny_bind (wpAny_attempt (wpAny_callSpecial?_slot (name := Str.ofString "__next__") hT F.slot_zip_next (wpAny_call_entry F.slot_zip_next hT F.entry_zip_next (zipT_end hh D hz hTI hTO h1 h2 hend fun h' e hk ⟨o, ho, hc⟩ => ?_) (F.args_zip_next_1 _))))
  exact wpAny_bind (wpAny_isInstance (T := "StopIteration") (b := true) ⟨o, ho, hc⟩ isSubtype_stop (wpAny_pure (hQ _ hk)))
abbrev zt1 (h : Heap) (l1 : Addr) : Heap := h.push { cls := .type "tuple_iterator", data := .fields #[.ref l1, .int 0 0] }
abbrev zt2 (h : Heap) (l1 l2 : Addr) : Heap := (zt1 h l1).push { cls := .type "tuple_iterator", data := .fields #[.ref l2, .int 0 0] }
abbrev zt3 (h : Heap) (l1 l2 : Addr) : Heap := (zt2 h l1 l2).push { cls := .type "tuple", data := .seq #[.ref h.objs.size, .ref (zt1 h l1).objs.size] }
abbrev zt4 (h : Heap) (l1 l2 : Addr) : Heap := (zt3 h l1 l2).push { cls := .type "tuple", data := .seq #[.none, .none] }
abbrev zt5 (h : Heap) (l1 l2 : Addr) : Heap := (zt4 h l1 l2).push { cls := .type "zip", data := .fields #[.none, .bool false, .bool false, .ref (zt2 h l1 l2).objs.size, .ref (zt3 h l1 l2).objs.size] }
theorem meets_zipT_new (l1 l2 : Addr) (xs ys : Array Value) :
    Meets (Builtin.«zip.__new__» ⟨[.type "zip", .ref l1, .ref l2], []⟩) (fun _ R s => s.heap.IsTuple l1 xs ∧ s.heap.IsTuple l2 ys ∧
      ∀ h', IsZip h' (s.heap.objs.size + 4) (s.heap.objs.size + 2) (s.heap.objs.size + 3) .none → IsPair h' (s.heap.objs.size + 2) (.ref s.heap.objs.size) (.ref (s.heap.objs.size + 1)) → IsPair h' (s.heap.objs.size + 3) .none .none →
        h'.IsTupleIter s.heap.objs.size l1 0 → h'.IsTupleIter (s.heap.objs.size + 1) l2 0 → (∀ c o, s.heap.get? c = some o → h'.get? c = some o) → R (.ok (.ret (.ref (s.heap.objs.size + 4)))) { s with heap := h' }) :=
  .of_wp fun prog w A R s h => by
    obtain ⟨hp, g, d, tk, os⟩ := s; obtain ⟨hl1, hl2, h⟩ := h
    have hsub := sub_zip
    have hL1 : Heap.IsTuple (Shared.heap ⟨hp, g, d, tk, os⟩) l1 xs := hl1
    have hL2 : Heap.IsTuple (Shared.heap ⟨hp.push { cls := .type "tuple_iterator", data := .fields #[.ref l1, .int 0 0] }, g, d, tk, os⟩) l2 ys := Heap.IsTuple.push hl2 _
    wp_walk using wpAny_pyIter_tuple hL1, wpAny_pyIter_tuple hL2
    refine ⟨_, rfl, ?_⟩
    show R (.ok (.ret (.ref (zt4 hp l1 l2).objs.size))) { heap := zt5 hp l1 l2, gens := g, drawn := d, toks := tk, os := os }
    have z1 : (zt1 hp l1).objs.size = hp.objs.size + 1 := Heap.size_push ..
    have z2 : (zt2 hp l1 l2).objs.size = hp.objs.size + 2 := by rw [Heap.size_push, z1]
    have z3 : (zt3 hp l1 l2).objs.size = hp.objs.size + 3 := by rw [Heap.size_push, z2]
    have z4 : (zt4 hp l1 l2).objs.size = hp.objs.size + 4 := by rw [Heap.size_push, z3]
    have g5 : (zt5 hp l1 l2).get? (zt4 hp l1 l2).objs.size = some _ := Heap.get?_push_size _ rfl
    have g4 : (zt5 hp l1 l2).get? (zt3 hp l1 l2).objs.size = some _ := Heap.get?_push_of_some _ (Heap.get?_push_size _ rfl)
    have g3 : (zt5 hp l1 l2).get? (zt2 hp l1 l2).objs.size = some _ := Heap.get?_push_of_some _ (Heap.get?_push_of_some _ (Heap.get?_push_size _ rfl))
    have g2 : (zt5 hp l1 l2).get? (zt1 hp l1).objs.size = some _ := Heap.get?_push_of_some _ (Heap.get?_push_of_some _ (Heap.get?_push_of_some _ (Heap.get?_push_size _ rfl)))
    have g1 : (zt5 hp l1 l2).get? hp.objs.size = some _ := Heap.get?_push_of_some _ (Heap.get?_push_of_some _ (Heap.get?_push_of_some _ (Heap.get?_push_of_some _ (Heap.get?_push_size _ rfl))))
    rw [z2, z3, z4] at g5
    rw [z1, z2] at g3
    rw [z3] at g4
    rw [z1] at g2
    rw [z4]
    exact h _ g5 g3 g4 ⟨_, g1, rfl, rfl⟩ ⟨_, g2, rfl, rfl⟩ fun c o q => Heap.get?_push_of_some _ (Heap.get?_push_of_some _ (Heap.get?_push_of_some _ (Heap.get?_push_of_some _ (Heap.get?_push_of_some _ q))))
theorem call_zipT {l1 l2 : Addr} {xs ys : Array Value} {Q : Value → Shared → Prop} (hl1 : s.heap.IsTuple l1 xs) (hl2 : s.heap.IsTuple l2 ys)
    (h : ∀ h', IsZip h' (s.heap.objs.size + 4) (s.heap.objs.size + 2) (s.heap.objs.size + 3) .none → IsPair h' (s.heap.objs.size + 2) (.ref s.heap.objs.size) (.ref (s.heap.objs.size + 1)) → IsPair h' (s.heap.objs.size + 3) .none .none →
      h'.IsTupleIter s.heap.objs.size l1 0 → h'.IsTupleIter (s.heap.objs.size + 1) l2 0 → (∀ c o, s.heap.get? c = some o → h'.get? c = some o) → Q (.ref (s.heap.objs.size + 4)) { s with heap := h' }) :
    wpAny (model prog w) A (call (.type "zip") [.ref l1, .ref l2]) Q E s := by
  refine callType_new F.called_zip (by decide) (F.typeCall_zip_2 _ _) (F.newCall_zip_2 _ _) (fun obj => F.args_object_init_3 obj _ _) F.entry_zip_new (meets_zipT_new l1 l2 xs ys) ⟨hl1, hl2, fun h' a1 a2 a3 a4 a5 a6 => ?_⟩
  exact ⟨⟨_, a1, rfl⟩, h h' a1 a2 a3 a4 a5 a6⟩
end
end L3
namespace L3
open PySem PySem.Spec PyProof.Rows L2
def Itzt (K : PySem.W.Frag) (a b : Addr) : It :=
  ⟨fun i H => ∃ xs ys x y, SqT K H a xs ∧ SqT K H b ys ∧ xs[i]? = some x ∧ ys[i]? = some y, fun i H v H' => ∃ x y T, (∀ xs, SqT K H a xs → xs[i]? = some x) ∧ (∀ ys, SqT K H b ys → ys[i]? = some y) ∧ v = .ref T ∧ H T = none ∧ H' = upd H T (.tup [x, y]), fun i H => ∃ xs ys, SqT K H a xs ∧ SqT K H b ys ∧ (xs.length ≤ i ∨ ys.length ≤ i)⟩
theorem zip_apartT {h : Heap} {z TI TO i1 i2 l1 l2 : Addr} {f0 a b : Value} {k1 k2 : Nat} {xs ys : Array Value} (hTT : TI ≠ TO) (h12 : i1 ≠ i2) (n1 : l1 ≠ TO) (n2 : l2 ≠ TO) (hz : IsZip h z TI TO f0) (hTI : IsPair h TI (.ref i1) (.ref i2)) (hTO : IsPair h TO a b) (h1 : h.IsTupleIter i1 l1 k1) (h2 : h.IsTupleIter i2 l2 k2) (hl1 : h.IsTuple l1 xs) (hl2 : h.IsTuple l2 ys) : ZipApart z TI TO i1 i2 l1 l2 := by
  have ne : ∀ {c d : Addr} {o o' : Obj} {n m : String}, h.get? c = some o → h.get? d = some o' → o.cls = .type n → o'.cls = .type m → n ≠ m → c ≠ d := by
    intro c d o o' n m e1 e2 k1 k2 hnm zz
    subst zz
    rw [e1] at e2
    cases e2
    rw [k1] at k2
    cases k2
    exact hnm rfl
  obtain ⟨o1, e1, c1, d1⟩ := h1
  obtain ⟨o2, e2, c2, d2⟩ := h2
  obtain ⟨q1, g1, k1, m1⟩ := hl1
  obtain ⟨q2, g2, k2, m2⟩ := hl2
  exact ⟨ne hTI hz rfl rfl (by decide), ne hTO hz rfl rfl (by decide), ne e1 hz c1 rfl (by decide), ne e2 hz c2 rfl (by decide), hTT, ne hTI e1 rfl c1 (by decide), ne hTI e2 rfl c2 (by decide), ne hTO e1 rfl c1 (by decide), ne hTO e2 rfl c2 (by decide), h12,
    ne g1 hz k1 rfl (by decide), n1, ne g1 e1 k1 c1 (by decide), ne g1 e2 k1 c2 (by decide), ne g2 hz k2 rfl (by decide), n2, ne g2 e1 k2 c1 (by decide), ne g2 e2 k2 c2 (by decide)⟩
theorem turn_zipT {P : Program} {w : World} {K : PySem.W.Frag} {elts : List Expr} {kk : Nat} {tp : Pos} (a b z TI TO i1 i2 : Addr) (hTT : TI ≠ TO) (h12 : i1 ≠ i2) (haT : a ≠ TO) (hbT : b ≠ TO) : Turn P w K (.Tuple elts kk tp) (Itzt K a b) [z, TI, TO, i1, i2] z (fun i h => IsZip h z TI TO .none ∧ IsPair h TI (.ref i1) (.ref i2) ∧ (∃ u v, IsPair h TO u v) ∧ h.IsTupleIter i1 a i ∧ h.IsTupleIter i2 b i) where
  mem := by simp
  obj := fun i h st c hc => by
    obtain ⟨hz, hTI, ⟨u, v, hTO⟩, ⟨o1, e1, c1, d1⟩, o2, e2, c2, d2⟩ := st
    simp only [List.mem_cons, List.not_mem_nil, or_false] at hc
    rcases hc with rfl | rfl | rfl | rfl | rfl
    · exact ⟨_, hz, fun v z => by cases z⟩
    · exact ⟨_, hTI, fun v z => by cases z⟩
    · exact ⟨_, hTO, fun v z => by cases z⟩
    · exact ⟨o1, e1, fun v z => by rw [d1] at z; cases z⟩
    · exact ⟨o2, e2, fun v z => by rw [d2] at z; cases z⟩
  keep := fun i h h' st k => by
    obtain ⟨hz, hTI, ⟨u, v, hTO⟩, h1, h2⟩ := st
    exact ⟨k z (by simp) _ hz, k TI (by simp) _ hTI, ⟨u, v, k TO (by simp) _ hTO⟩, h1.at fun o x => k i1 (by simp) o x, h2.at fun o x => k i2 (by simp) o x⟩
  item := by
    intro X hP hw hK hc i pins s σ H E I hf st hg
    subst hP hw hK
    obtain ⟨xs, ys, x, y, hq1, hq2, hx, hy⟩ := hg
    obtain ⟨its1, rv1, p1, hz1⟩ := I.tuple hq1
    obtain ⟨its2, rv2, p2, hz2⟩ := I.tuple hq2
    obtain ⟨u, hu, ru⟩ := rv1.get hx
    obtain ⟨u', hu', ru'⟩ := rv2.get hy
    obtain ⟨hz, hTI, ⟨t1, t2, hTO⟩, h1, h2⟩ := st
    have D := zip_apartT hTT h12 haT hbT hz hTI hTO h1 h2 (show s.heap.IsTuple a its1.toArray from p1) (show s.heap.IsTuple b its2.toArray from p2)
    have lz : z < s.heap.objs.size := Heap.lt_size hz
    have lTI : TI < s.heap.objs.size := Heap.lt_size hTI
    have lTO : TO < s.heap.objs.size := Heap.lt_size hTO
    have l1 : i1 < s.heap.objs.size := by obtain ⟨_, y, _⟩ := h1; exact Heap.lt_size y
    have l2 : i2 < s.heap.objs.size := by obtain ⟨_, y, _⟩ := h2; exact Heap.lt_size y
    refine nextZT_item D hz hTI hTO ⟨h1, (show s.heap.IsTuple a its1.toArray from p1)⟩ ⟨h2, (show s.heap.IsTuple b its2.toArray from p2)⟩ (x := u) (y := u') (by simpa using hu) (by simpa using hu') fun h' a1 a2 a3 a4 a5 a6 hk => ?_
    refine ⟨_, rfl, ?_⟩
    refine wpAny_letOwnedTupleGo_zip (s := { s with heap := h' }) a1 fun h3 hz3 hs3 => ?_
    have hfr : H s.heap.objs.size = none := I.hok.fresh (Nat.le_refl _)
    have I1 : Inv X pins σ (upd H s.heap.objs.size (.tup [x, y])) { s with heap := s.heap.push { cls := .type "tuple", data := .seq #[u, u'] }, toks := s.toks } :=
      I.laid (t' := s.toks) (o := .tup [x, y]) (fun b o q => Heap.get?_push_of_some _ q) (Nat.le_refl _) ⟨(show 2 ≤ sizeLine by decide), [u, u'], .cons ru (.cons ru' .nil), IsTup.new _ _⟩
    have hT3 : h3.get? s.heap.objs.size = some { cls := .type "tuple", data := .seq #[u, u'] } := (hs3.2 _ (Nat.ne_of_gt lz)).trans a5
    have I3 : Inv X pins σ (upd H s.heap.objs.size (.tup [x, y])) { s with heap := h3, toks := s.toks } := by
      refine L2.Inv.turnedL (s := { s with heap := s.heap.push { cls := .type "tuple", data := .seq #[u, u'] }, toks := s.toks }) (its := [z, TI, TO, i1, i2]) (t' := s.toks) (h' := h3) I1 (fun c o hc q => ?_) (fun c hc => ?_)
      · simp only [List.mem_cons, List.not_mem_nil, or_false, not_or] at hc
        rcases Nat.lt_or_ge c s.heap.objs.size with hlt | hge
        · have q' : s.heap.get? c = some o := by
            rw [Heap.get?_push_ne _ _ _ (Nat.ne_of_lt hlt)] at q; exact q
          exact (hs3.2 c hc.1).trans (hk c o hc.1 hc.2.2.1 hc.2.2.2.1 hc.2.2.2.2 q')
        · have hlt2 := Heap.lt_size q
          rw [Heap.size_push] at hlt2
          have hbe : c = s.heap.objs.size := Nat.le_antisymm (Nat.le_of_lt_succ hlt2) hge
          subst hbe
          rw [Heap.get?_push_size _ rfl] at q
          cases q
          exact hT3
      · have hfc := hf c hc
        simp only [List.mem_cons, List.not_mem_nil, or_false] at hc
        rcases hc with rfl | rfl | rfl | rfl | rfl
        · exact fpOk_upd hfc (Nat.ne_of_lt lz)
        · exact fpOk_upd hfc (Nat.ne_of_lt lTI)
        · exact fpOk_upd hfc (Nat.ne_of_lt lTO)
        · exact fpOk_upd hfc (Nat.ne_of_lt l1)
        · exact fpOk_upd hfc (Nat.ne_of_lt l2)
    have up : Heap.ExtBut z h' h3 := fun c o hc e => (hs3.2 c hc).trans e
    refine ⟨.ref s.heap.objs.size, _, I3, rfl, ⟨x, y, _, fun ws hw => by rw [I.tuple_inj hw hq1]; exact hx, fun ws hw => by rw [I.tuple_inj hw hq2]; exact hy, rfl, hfr, rfl⟩, ⟨hz3, up _ _ D.TIz (hk _ _ D.TIz D.TITO D.TIi1 D.TIi2 hTI), ⟨_, _, up _ _ D.TOz a2⟩, (a3.but up D.i1z D.l1z).1, (a4.but up D.i2z D.l2z).1⟩, fun c hc => ?_⟩
    have hfc := hf c hc
    simp only [List.mem_cons, List.not_mem_nil, or_false] at hc
    rcases hc with rfl | rfl | rfl | rfl | rfl
    · rw [upd_ne (Nat.ne_of_lt lz)]; exact hfc.1
    · rw [upd_ne (Nat.ne_of_lt lTI)]; exact hfc.1
    · rw [upd_ne (Nat.ne_of_lt lTO)]; exact hfc.1
    · rw [upd_ne (Nat.ne_of_lt l1)]; exact hfc.1
    · rw [upd_ne (Nat.ne_of_lt l2)]; exact hfc.1
  done := by
    intro X hP hw hK hc i pins s σ H E I hf st hg
    subst hP hw hK
    obtain ⟨xs, ys, hq1, hq2, hx⟩ := hg
    obtain ⟨its1, rv1, p1, hz1⟩ := I.tuple hq1
    obtain ⟨its2, rv2, p2, hz2⟩ := I.tuple hq2
    obtain ⟨hz, hTI, ⟨t1, t2, hTO⟩, h1, h2⟩ := st
    have D := zip_apartT hTT h12 haT hbT hz hTI hTO h1 h2 (show s.heap.IsTuple a its1.toArray from p1) (show s.heap.IsTuple b its2.toArray from p2)
    have hl1 := rv1.length
    have hl2 := rv2.length
    refine nextZT_end (I.ok.hd hc) D hz hTI hTO ⟨h1, (show s.heap.IsTuple a its1.toArray from p1)⟩ ⟨h2, (show s.heap.IsTuple b its2.toArray from p2)⟩ (by simp; omega) fun h' eb => ⟨rfl, ?_⟩
    exact I.turnedL (its := [z, TI, TO, i1, i2]) (t' := s.toks) (fun c o hc q => eb c o (fun z => hc (by simp [z])) (fun z => hc (by simp [z])) (fun z => hc (by simp [z])) (fun z => hc (by simp [z])) q) hf
  self := fun _ _ _ _ _ st h => wpAny_pyIter_zip st.1 h
section
variable {X : Cx}
def iZipT (ta : TA) (K : PySem.W.Frag) : TI := fun σ H R => ta σ H fun vs H1 => ∃ a b xs ys, vs = [.ref a, .ref b] ∧ SqT K H1 a xs ∧ SqT K H1 b ys ∧ R (Itzt K a b) H1
theorem pi_zipT {elts : List Expr} {kk : Nat} {tp : Pos} {a b : Expr} {ta : TA} {p pos : Pos} (hg : Gl X "zip") (hm : X.mg "zip" = none) (ha : PA X [a, b] ta) (hs : starEach [a, b] X.env = [(false, eval a X.env), (false, eval b X.env)]) (hs2 : starEach [b] X.env = [(false, eval b X.env)]) : PI X (.Tuple elts kk tp) (.Call (.Name "zip" p) [a, b] [] pos) (iZipT ta X.K) := by
  intro pins s σ H R I h
  refine Call_ (ld_blt I hg hm bt_zip' (PyProof.Rows.callWith_type1 (thn (ha pos pins s σ H _ I h) fun us s1 ⟨vs, H1, I1, r1, q1⟩ => ?_) (by rw [hs, hs2]) (by rw [hs2]; rfl)))
  obtain ⟨l1, l2, xs, ys, e, hl1, hl2, q⟩ := q1
  subst e
  cases r1 with
  | cons r rr =>
    cases rr with
    | cons r' rr =>
      cases rr
      cases r
      cases r'
      obtain ⟨its1, rv1, p1, hz1⟩ := I1.tuple hl1
      obtain ⟨its2, rv2, p2, hz2⟩ := I1.tuple hl2
      have p1' : s1.heap.IsTuple l1 its1.toArray := p1
      have p2' : s1.heap.IsTuple l2 its2.toArray := p2
      have lt1 : l1 < s1.heap.objs.size := by obtain ⟨_, e, _⟩ := p1'; exact Heap.lt_size e
      have lt2 : l2 < s1.heap.objs.size := by obtain ⟨_, e, _⟩ := p2'; exact Heap.lt_size e
      refine call_zipT p1' p2' fun h' hz hTI hTO hi1 hi2 hk => ?_
      refine wpAny_pyIter_zip hz ?_
      have I2 : Inv X pins σ H1 { s1 with heap := h' } := I1.kept (t' := s1.toks) hk
      refine ⟨s1.heap.objs.size + 4, [s1.heap.objs.size + 4, s1.heap.objs.size + 2, s1.heap.objs.size + 3, s1.heap.objs.size, s1.heap.objs.size + 1], _, _, H1, rfl, I2, turn_zipT l1 l2 _ _ _ _ _ (Nat.ne_of_lt (Nat.lt_succ_self _)) (Nat.ne_of_lt (Nat.lt_succ_self _)) (Nat.ne_of_lt (Nat.lt_of_lt_of_le lt1 (Nat.le_add_right _ _))) (Nat.ne_of_lt (Nat.lt_of_lt_of_le lt2 (Nat.le_add_right _ _))), ⟨hz, hTI, ⟨_, _, hTO⟩, hi1, hi2⟩, fun c hc => ?_, q⟩
      have hge : s1.heap.objs.size ≤ c := by
        simp only [List.mem_cons, List.not_mem_nil, or_false] at hc
        rcases hc with rfl | rfl | rfl | rfl | rfl <;> first | exact Nat.le_refl _ | exact Nat.le_add_right _ _
      exact I1.fpOk hge (I1.hok.fresh hge)
theorem izipT {elts : List Expr} {kk : Nat} {tp : Pos} {a b : Expr} {ta : TA} {p pos : Pos} (K : PySem.W.Frag) (hg : Gl X "zip") (hm : X.mg "zip" = none) (ha : QA X [a, b] ta) (h : notStar a = true := by rfl) (h' : notStar b = true := by rfl) (hK : X.K = K := by rfl) : QI X (.Tuple elts kk tp) (.Call (.Name "zip" p) [a, b] [] pos) (iZipT ta K) := by
  subst hK
  exact .mk (pi_zipT hg hm ha.un (by rw [star_cons h, star_cons h', star_nil]) (by rw [star_cons h', star_nil]))
end
theorem comp_zipT {K : PySem.W.Frag} {a b : Addr} {xs ys : List V} {g : TG} {tt : TT} {te : TE} {acc : Addr} {σ0 : L2.St} {H0 : Hp} {Q : Hp → Prop} {n : Nat} (hn : n = min xs.length ys.length) (Pv : Nat → List V → L2.St → Hp → Prop) (h0 : Pv 0 [] σ0 H0) (hl : ∀ i zs σ H, Pv i zs σ H → SqT K H a xs ∧ SqT K H b ys)
    (hs : ∀ i zs x y σ H T, xs[i]? = some x → ys[i]? = some y → i < n → Pv i zs σ H → H T = none → g (.ref T) σ (upd H T (.tup [x, y])) fun σ2 H2 => tt σ2 H2 fun b H3 => if b = true then te σ2 H3 (CPost Pv acc n i σ2) else CSkip Pv n i σ2 H3)
    (hd : ∀ zs σ H, Pv n zs σ H → Q H) : CompW (Itzt K a b) g tt te acc σ0 H0 Q := by
  refine ⟨fun i m σ H => m = n - i ∧ i ≤ n ∧ ∃ ys, Pv i ys σ H, ⟨n, by simp, Nat.zero_le _, [], h0⟩, ?_⟩
  rintro i m σ H ⟨rfl, hi, zs, p⟩
  obtain ⟨q1, q2⟩ := hl i zs σ H p
  by_cases hlt : i < n
  · have h1 : i < xs.length := by omega
    have h2 : i < ys.length := by omega
    refine .inr ⟨⟨xs, ys, xs[i], ys[i], q1, q2, by simp [h1], by simp [h2]⟩, fun x H1 y => ?_⟩
    obtain ⟨x, y, T, hx, hy, rfl, hT, rfl⟩ := y
    have := hs i zs x y σ H T (hx xs q1) (hy ys q2) hlt p hT
    unfold CPost CSkip at this
    exact this
  · obtain rfl : i = n := by omega
    exact .inl ⟨⟨xs, ys, q1, q2, by omega⟩, hd zs σ H p⟩
end L3
namespace L3
inductive Tr where
  | nil
  | node (l : Tr) (k : Int) (r : Tr)
namespace Tr
def d : Tr → D
  | nil => .non
  | node l k r => .tup [l.d, .int k, r.d]
def ht : Tr → Nat
  | nil => 0
  | node l _ r => max l.ht r.ht + 1
def size : Tr → Nat
  | nil => 0
  | node l _ r => l.size + 1 + r.size
def keys : Tr → List Int
  | nil => []
  | node l k r => l.keys ++ [k] ++ r.keys
def ins (x : Int) : Tr → Tr
  | nil => node nil x nil
  | node l k r => if x < k then node (l.ins x) k r else node l k (r.ins x)
def ord : Tr → Option Int → Option Int → Prop
  | nil, _, _ => True
  | node l k r, lo, hi => (∀ a, lo = some a → a < k) ∧ (∀ b, hi = some b → k < b) ∧ l.ord lo (some k) ∧ r.ord (some k) hi
theorem ht_size : ∀ t : Tr, t.ht ≤ t.size
  | nil => Nat.le_refl _
  | node l k r => by have := ht_size l; have := ht_size r; simp only [ht, size]; omega
theorem keys_length : ∀ t : Tr, t.keys.length = t.size
  | nil => rfl
  | node l k r => by simp only [keys, size, List.length_append, List.length_singleton, keys_length l, keys_length r]
theorem mem_ins (x y : Int) : ∀ t : Tr, y ∈ (t.ins x).keys ↔ y = x ∨ y ∈ t.keys
  | nil => by simp [ins, keys]
  | node l k r => by
    unfold ins
    split
    · simp only [keys, List.mem_append, List.mem_singleton, mem_ins x y l]; grind
    · simp only [keys, List.mem_append, List.mem_singleton, mem_ins x y r]; grind
theorem ins_ord (x : Int) : ∀ (t : Tr) (lo hi : Option Int), t.ord lo hi → x ∉ t.keys → (∀ a, lo = some a → a < x) → (∀ b, hi = some b → x < b) → (t.ins x).ord lo hi
  | nil, lo, hi, _, _, h1, h2 => ⟨h1, h2, trivial, trivial⟩
  | node l k r, lo, hi, h, hx, h1, h2 => by
    obtain ⟨a1, a2, a3, a4⟩ := h
    simp only [keys, List.mem_append, List.mem_singleton, not_or] at hx
    unfold ins
    split
    · exact ⟨a1, a2, ins_ord x l lo (some k) a3 hx.1.1 h1 (fun b e => by cases e; assumption), a4⟩
    · refine ⟨a1, a2, a3, ins_ord x r (some k) hi a4 hx.2 (fun a e => ?_) h2⟩
      cases e
      have := hx.1.2
      omega
end Tr
def knot : D → Option (D × Int × D)
  | .tup [l, .int k, r] => some (l, k, r)
  | _ => none
end L3
namespace L3
def maxI : List Int → Int
  | [] => 0
  | [a] => a
  | a :: r => max a (maxI r)
def ruleM (ks : List (Int × Int)) (room : Int) : Int × Int :=
  if ks = [] then (1, 1) else
    let lv := maxI (ks.map (·.1))
    let sz := 1 + ((ks.filter fun p => decide (p.1 = lv)).map (·.2)).sum
    if sz ≤ room then (lv, sz) else (lv + 1, 1)
namespace Tr
def key? : Tr → List Int
  | nil => []
  | node _ k _ => [k]
def mark (room : Int) : Tr → Int × Int
  | nil => (0, 0)
  | node l _ r => ruleM ((match l with | nil => [] | node .. => [l.mark room]) ++ (match r with | nil => [] | node .. => [r.mark room])) room
def wk : Tr → List (Int × List Int)
  | nil => []
  | node l k r => l.wk ++ r.wk ++ [(k, l.key? ++ r.key?)]
def pt (room : Int) : Tr → List (Int × Int × Int)
  | nil => []
  | node l k r => l.pt room ++ r.pt room ++ [(k, (node l k r).mark room)]
theorem pt_perm (room : Int) : ∀ t : Tr, ((t.pt room).map (·.1)).Perm t.keys
  | nil => .refl _
  | node l k r => by
    simp only [pt, keys, List.map_append, List.map_cons, List.map_nil]
    have h1 := pt_perm room l
    have h2 := pt_perm room r
    have h3 : ((l.pt room).map (·.1) ++ (r.pt room).map (·.1) ++ [k]).Perm (l.keys ++ r.keys ++ [k]) := (h1.append h2).append_right _
    refine h3.trans ?_
    rw [List.append_assoc, List.append_assoc]
    exact List.Perm.append_left _ List.perm_append_comm
theorem wk_length : ∀ t : Tr, t.wk.length = t.size
  | nil => rfl
  | node l k r => by simp only [wk, List.length_append, List.length_singleton, wk_length l, wk_length r, size]; omega
end Tr
abbrev Tab := List (Int × Int × Int)
def look (tb : Tab) (k : Int) : Option (Int × Int) := (tb.find? fun e => decide (e.1 = k)).map (·.2)
namespace Tr
theorem wk_keys (room : Int) : ∀ t : Tr, t.wk.map (·.1) = (t.pt room).map (·.1)
  | nil => rfl
  | node l k r => by simp [wk, pt, wk_keys room l, wk_keys room r]
theorem pt_nodup (room : Int) {t : Tr} (h : t.keys.Nodup) : ((t.pt room).map (·.1)).Nodup := (pt_perm room t).nodup_iff.mpr h
end Tr
theorem Tr.wk_small : ∀ (t : Tr) (e : Int × List Int), e ∈ t.wk → e.2.length ≤ 2
  | .nil, e, h => by simp [Tr.wk] at h
  | .node l k r, e, h => by
    simp only [Tr.wk, List.mem_append, List.mem_singleton] at h
    rcases h with (h | h) | h
    · exact Tr.wk_small l e h
    · exact Tr.wk_small r e h
    · subst h
      have : ∀ t : Tr, t.key?.length ≤ 1 := fun t => by cases t <;> simp [Tr.key?]
      have h1 := this l
      have h2 := this r
      simp only [List.length_append]
      omega
def Tr.sub (t : Tr) : List Tr := match t with
  | .nil => []
  | .node .. => [t]
end L3
namespace L3
open PySem L2
def PenAt (H : Hp) (p : Addr) : Prop := ∃ m n, H p = some (.lst [.int m, .int n])
theorem PenAt.mono {H H' : Hp} {p : Addr} (h : PenAt H p) (s : Same H H') : PenAt H' p := by
  obtain ⟨m, n, e⟩ := h
  exact ⟨m, n, s _ _ e⟩
def vO : Option Int → V
  | none => .non
  | some i => .int i
theorem rep_node {H : Hp} {v : V} {l r : Tr} {k : Int} (h : Rep H v (Tr.node l k r).d) : ∃ a vl vr, v = .ref a ∧ H a = some (.tup [vl, .int k, vr]) ∧ Rep H vl l.d ∧ Rep H vr r.d := by
  cases h with
  | @tup a vs xs e rs =>
    cases rs with
    | cons h1 r1 =>
      cases r1 with
      | cons h2 r2 =>
        cases r2 with
        | cons h3 r3 =>
          cases r3
          cases h2
          exact ⟨a, _, _, rfl, e, h1, h3⟩
theorem rep_nil {H : Hp} {v : V} (h : Rep H v Tr.nil.d) : v = .non := by cases h; rfl
theorem rep_mk {H : Hp} {a : Addr} {vl vr : V} {k : Int} {l r : D} (e : H a = some (.tup [vl, .int k, vr])) (h1 : Rep H vl l) (h2 : Rep H vr r) : Rep H (.ref a) (.tup [l, .int k, r]) := .tup e (.cons h1 (.cons (.int k) (.cons h2 .nil)))
theorem rep_tup {H : Hp} {v : V} {xs : List D} (h : Rep H v (.tup xs)) : ∃ a vs, v = .ref a ∧ H a = some (.tup vs) ∧ Reps H vs xs := by
  cases h with
  | tup e r => exact ⟨_, _, rfl, e, r⟩
theorem rep_rm {H : Hp} {p : Addr} {vs : List V} (hp : H p = some (.lst vs)) : ∀ (t : Tr) {v : V}, Rep H v t.d → Rep (rm p H) v t.d
  | .nil, v, h => by cases rep_nil h; exact .non
  | .node l k r, v, h => by
    obtain ⟨a, vl, vr, rfl, ea, hl, hr⟩ := rep_node h
    exact rep_mk (by rw [rm_ne (fun z => by rw [z, hp] at ea; cases ea)]; exact ea) (rep_rm hp l hl) (rep_rm hp r hr)
theorem pures_ints : ∀ ns : List Int, pures (ns.map D.int) = true
  | [] => rfl
  | n :: r => by rw [List.map_cons, pures, pures_ints r]; rfl
theorem deps_ints : ∀ ns : List Int, deps (ns.map D.int) = 0
  | [] => rfl
  | n :: r => by rw [List.map_cons, deps, deps_ints r]; rfl
theorem rep_ints {H : Hp} {a : Addr} {ns : List Int} (h : H a = some (.lst (ns.map V.int))) : Rep H (.ref a) (.lst (ns.map D.int)) := .lst h (Reps.ints ns)
theorem cut_hi (xs : List V) (k : Nat) : cutV xs none (some (k : Int)) = xs.take k := by
  unfold cutV
  rw [HT.sIx_none, HT.sIx_nat, List.drop_zero, Nat.sub_zero]
  rcases Nat.le_total k xs.length with h | h
  · rw [Nat.min_eq_left h]
  · rw [Nat.min_eq_right h, List.take_length, List.take_of_length_le h]
theorem cut_lo (xs : List V) (k : Nat) : cutV xs (some (k : Int)) none = xs.drop k := by
  unfold cutV
  rw [HT.sIx_none, HT.sIx_nat]
  rw [List.take_of_length_le (by rw [List.length_drop]; omega)]
  rcases Nat.le_total k xs.length with h | h
  · rw [Nat.min_eq_left h]
  · rw [Nat.min_eq_right h, List.drop_length, List.drop_eq_nil_of_le h]
end L3
namespace L3
open PySem L2
inductive DT (H : Hp) : List (Key × V) → Tab → Prop where
  | nil : DT H [] []
  | cons {k lv sz : Int} {b : Addr} {kvs : List (Key × V)} {tb : Tab} : H b = some (.tup [.int lv, .int sz]) → DT H kvs tb → DT H ((Sum.inl k, .ref b) :: kvs) ((k, lv, sz) :: tb)
theorem DT.mono {H H' : Hp} {kvs : List (Key × V)} {tb : Tab} (h : DT H kvs tb) (s : Same H H') : DT H' kvs tb := by
  induction h with
  | nil => exact .nil
  | cons e _ ih => exact .cons (s _ _ e) ih
theorem DT.length {H : Hp} {kvs : List (Key × V)} {tb : Tab} (h : DT H kvs tb) : kvs.length = tb.length := by
  induction h with
  | nil => rfl
  | cons _ _ ih => rw [List.length_cons, List.length_cons, ih]
theorem DT.append {H : Hp} {a b : List (Key × V)} {s t : Tab} (h : DT H a s) (h' : DT H b t) : DT H (a ++ b) (s ++ t) := by
  induction h with
  | nil => exact h'
  | cons e _ ih => exact .cons e ih
theorem DT.none {H : Hp} {kvs : List (Key × V)} {tb : Tab} (h : DT H kvs tb) {k : Int} (hk : k ∉ tb.map (·.1)) : valV kvs (Sum.inl k : Key) = Option.none := by
  induction h with
  | nil => rfl
  | @cons k' lv sz b kvs tb eb _ ih =>
    simp only [List.map_cons, List.mem_cons, not_or] at hk
    rw [valV_neg (by simpa using fun z => hk.1 z.symm)]
    exact ih hk.2
def rowD (e : Int × Int × Int) : D := .tup [.int e.1, .int e.2.1, .int e.2.2]
def kidD (e : Int × List Int) : D := .tup [.int e.1, .lst (e.2.map D.int)]
theorem rep_lst {H : Hp} {v : V} {xs : List D} (h : Rep H v (.lst xs)) : ∃ a vs, v = .ref a ∧ H a = some (.lst vs) ∧ Reps H vs xs := by
  cases h with
  | lst e r => exact ⟨_, _, rfl, e, r⟩
theorem rep_int {H : Hp} {v : V} {i : Int} (h : Rep H v (.int i)) : v = .int i := by cases h; rfl
theorem reps_ints : ∀ {H : Hp} {vs : List V} {ns : List Int}, Reps H vs (ns.map D.int) → vs = ns.map V.int
  | _, [], [], .nil => rfl
  | H, _, n :: r, h => by
    cases h with
    | cons h1 h2 => rw [rep_int h1, reps_ints h2]; rfl
theorem rep_kid {H : Hp} {v : V} {e : Int × List Int} (h : Rep H v (kidD e)) : ∃ b c, v = .ref b ∧ H b = some (.tup [.int e.1, .ref c]) ∧ H c = some (.lst (e.2.map V.int)) := by
  obtain ⟨a, vs, rfl, ea, rs⟩ := rep_tup h
  cases rs with
  | cons h1 rs =>
    cases rs with
    | cons h2 rs =>
      cases rs
      cases rep_int h1
      obtain ⟨c, ws, rfl, ec, rw'⟩ := rep_lst h2
      rw [reps_ints rw'] at ec
      exact ⟨a, c, rfl, ea, ec⟩
theorem reps_map {H : Hp} {α : Type} {f : α → D} : ∀ {vs : List V} {xs : List α} {i : Nat} {v : V}, Reps H vs (xs.map f) → vs[i]? = some v → ∃ x, xs[i]? = some x ∧ Rep H v (f x) := by
  intro vs xs i v h e
  obtain ⟨d, h1, h2⟩ := h.get e
  rw [List.getElem?_map] at h1
  obtain ⟨x, hx, rfl⟩ := Option.map_eq_some_iff.mp h1
  exact ⟨x, hx, h2⟩
mutual
/-- data without a dict stand apart from a dict -/
theorem Rep.apart {H : Hp} {d : Addr} {kvs : List (Key × V)} (hd : H d = some (.dK kvs)) {v : V} {e : D} : Rep H v e → e.pure = true → Rep (rm d H) v e
  | .non, _ => .non
  | .bl b, _ => .bl b
  | .int i, _ => .int i
  | .str x, _ => .str x
  | .tup (a := a) ea r, h => .tup (by rw [rm_ne (fun z => by rw [z, hd] at ea; cases ea)]; exact ea) (Reps.apart hd r (by rw [D.pure] at h; exact h))
  | .lst (a := a) ea r, h => .lst (by rw [rm_ne (fun z => by rw [z, hd] at ea; cases ea)]; exact ea) (Reps.apart hd r (by rw [D.pure] at h; exact h))
  | .emp _, h => by rw [D.pure] at h; cases h
theorem Reps.apart {H : Hp} {d : Addr} {kvs : List (Key × V)} (hd : H d = some (.dK kvs)) {vs : List V} {es : List D} : Reps H vs es → pures es = true → Reps (rm d H) vs es
  | .nil, _ => .nil
  | .cons h r, q => by
    rw [pures, Bool.and_eq_true] at q
    exact .cons (Rep.apart hd h q.1) (Reps.apart hd r q.2)
end
theorem pures_map {α : Type} {f : α → D} (hf : ∀ x, (f x).pure = true) : ∀ xs : List α, pures (xs.map f) = true
  | [] => rfl
  | x :: r => by rw [List.map_cons, pures, hf x, pures_map hf r]; rfl
theorem pure_kid (e : Int × List Int) : (kidD e).pure = true := by
  show (true && (pures (e.2.map D.int) && true)) = true
  rw [pures_ints]; rfl
end L3
namespace L3
open PySem L2
def Pen3 (H : Hp) (p : Addr) : Prop := ∃ m n c, H p = some (.lst [.int m, .int n, .int c])
theorem Pen3.mono {H H' : Hp} {p : Addr} (h : Pen3 H p) (s : Same H H') : Pen3 H' p := by
  obtain ⟨m, n, c, e⟩ := h
  exact ⟨m, n, c, s _ _ e⟩
theorem Pen3.ne {H : Hp} {p l : Addr} (h : Pen3 H p) (e : H l = none) : l ≠ p := by
  obtain ⟨m, n, c, q⟩ := h
  intro z
  rw [z, q] at e; cases e
theorem Pen3.free {H H' : Hp} {p l : Addr} (h : Pen3 H' p) (s : Same (rm p H) H') (e : H' l = none) : H l = none := by
  obtain ⟨m, n, c, q⟩ := h
  exact rm_free s e q
theorem Pen3.off {H : Hp} {p l : Addr} {o : HO} (h : Pen3 H p) (hl : p ≠ l) : Pen3 (upd H l o) p := by
  obtain ⟨m, n, c, q⟩ := h
  exact ⟨m, n, c, by rw [upd_ne hl]; exact q⟩
theorem rep_pen3 {H : Hp} {p : Addr} (hp : Pen3 H p) (t : Tr) {v : V} (h : Rep H v t.d) : Rep (rm p H) v t.d := by
  obtain ⟨m, n, c, e⟩ := hp
  exact rep_rm e t h
theorem atI_last {α : Type} (xs : List α) (x : α) : atI (xs ++ [x]) (-1) = some x := by
  unfold atI ixN
  rw [if_neg (by decide), if_pos (by simp; omega)]
  show (xs ++ [x])[(-1 + ((xs ++ [x]).length : Int)).toNat]? = some x
  have e : (-1 + ((xs ++ [x]).length : Int)).toNat = xs.length := by simp; omega
  rw [e, List.getElem?_append_right (Nat.le_refl _)]; simp
theorem seqIx {k n : Nat} (h : k < n) : seqIndex? (k : Int) n = some k := (ixN_seq (i := (k : Int)) (by unfold ixN; rw [if_pos (by omega), if_pos (by omega)]; simp)).1
theorem erase_map {α β : Type} (f : α → β) : ∀ (xs : List α) (k : Nat), (xs.map f).eraseIdx k = (xs.eraseIdx k).map f
  | [], _ => rfl
  | x :: xs, 0 => rfl
  | x :: xs, k + 1 => by simp [erase_map f xs k]
theorem erase_len {α : Type} : ∀ (xs : List α) (k : Nat), k < xs.length → (xs.eraseIdx k).length + 1 = xs.length
  | x :: xs, 0, _ => rfl
  | x :: xs, k + 1, h => by
    have := erase_len xs k (by simpa using h)
    simp; omega
theorem erase_perm {α : Type} : ∀ (xs : List α) (k : Nat) (x : α), xs[k]? = some x → (x :: xs.eraseIdx k).Perm xs
  | [], _, _, h => by simp at h
  | y :: xs, 0, x, h => by simp at h; subst h; exact List.Perm.refl _
  | y :: xs, k + 1, x, h => by
    have ih := erase_perm xs k x (by simpa using h)
    exact (List.Perm.swap y x _).trans (ih.cons y)
theorem ne_ints {H : Hp} {a b : Addr} {xs ys : List Int} {Q : VK} (ea : H a = some (.lst (xs.map V.int))) (eb : H b = some (.lst (ys.map V.int))) (h : Q (.bl (!decide (xs = ys))) H) : rNeG 150 (.ref a) (.ref b) H Q := by
  refine ⟨_, _, rep_ints ea, rep_ints eb, by rw [D.pure]; exact pures_ints xs, by rw [D.pure]; exact pures_ints ys, by rw [D.dep, deps_ints]; decide, ?_⟩
  by_cases he : xs = ys
  · subst he
    rw [D.eqv_refl]
    simpa using h
  · have hne : (D.lst (xs.map D.int)).eqv (.lst (ys.map D.int)) = false := eqv_ne (by rw [D.pure]; exact pures_ints xs) (by rw [D.pure]; exact pures_ints ys) (fun z => he (by
      injection z with z
      exact (List.map_inj_right (fun _ _ q => by injection q)).mp z))
    rw [hne]
    rw [decide_eq_false he] at h
    exact h
theorem ne_same {H : Hp} {a b : Addr} {e : D} {Q : VK} (ra : Rep H (.ref a) e) (rb : Rep H (.ref b) e) (hp : e.pure = true) (hd : e.dep ≤ 140) (h : Q (.bl false) H) : rNeG 150 (.ref a) (.ref b) H Q := by
  refine ⟨_, _, ra, rb, hp, hp, by omega, ?_⟩
  rw [D.eqv_refl]; exact h
theorem inV_ints (k : Int) : ∀ ws : List Int, inV (.int k) (ws.map V.int) = decide (k ∈ ws)
  | [] => by simp [inV]
  | w :: ws => by
    have ih := inV_ints k ws
    unfold inV at ih ⊢
    rw [List.map_cons, List.any_cons, ih]
    by_cases h : w = k
    · subst h; simp [eqV]
    · have h' : ¬ k = w := fun z => h z.symm
      simp [eqV, h, h']
theorem flat_ints : ∀ ws : List Int, (ws.map V.int).all flatV = true
  | [] => rfl
  | w :: ws => by rw [List.map_cons, List.all_cons, flat_ints ws]; rfl
def Pgs (H : Hp) : List Addr → List (List Int) → Prop
  | [], [] => True
  | b :: bs, p :: ps => H b = some (.lst (p.map V.int)) ∧ Pgs H bs ps
  | _, _ => False
theorem Pgs.stay {H H' : Hp} : ∀ {bs : List Addr} {ps : List (List Int)}, Pgs H bs ps → (∀ b ∈ bs, H' b = H b) → Pgs H' bs ps
  | [], [], _, _ => trivial
  | b :: bs, p :: ps, h, s => ⟨by rw [s b (by simp)]; exact h.1, h.2.stay (fun c hc => s c (by simp [hc]))⟩
  | [], _ :: _, h, _ => h.elim
  | _ :: _, [], h, _ => h.elim
theorem Pgs.mono {H H' : Hp} : ∀ {bs : List Addr} {ps : List (List Int)}, Pgs H bs ps → Same H H' → Pgs H' bs ps
  | [], [], _, _ => trivial
  | b :: bs, p :: ps, h, s => ⟨s _ _ h.1, h.2.mono s⟩
  | [], _ :: _, h, _ => h.elim
  | _ :: _, [], h, _ => h.elim
theorem Pgs.len {H : Hp} : ∀ {bs : List Addr} {ps : List (List Int)}, Pgs H bs ps → bs.length = ps.length
  | [], [], _ => rfl
  | b :: bs, p :: ps, h => by simp [h.2.len]
  | [], _ :: _, h => h.elim
  | _ :: _, [], h => h.elim
theorem Pgs.at {H : Hp} : ∀ {bs : List Addr} {ps : List (List Int)} {j : Nat} {b : Addr}, Pgs H bs ps → bs[j]? = some b → ∃ p, ps[j]? = some p ∧ H b = some (.lst (p.map V.int))
  | [], [], _, _, _, e => by simp at e
  | c :: bs, q :: ps, 0, b, h, e => by simp at e; subst e; exact ⟨q, rfl, h.1⟩
  | c :: bs, q :: ps, j + 1, b, h, e => by simpa using Pgs.at h.2 (j := j) (by simpa using e)
  | [], _ :: _, _, _, h, _ => h.elim
  | _ :: _, [], _, _, h, _ => h.elim
theorem Pgs.of {H : Hp} : ∀ {bs : List Addr} {ps : List (List Int)} {b : Addr}, Pgs H bs ps → b ∈ bs → ∃ p, p ∈ ps ∧ H b = some (.lst (p.map V.int))
  | [], [], _, _, e => by simp at e
  | c :: bs, q :: ps, b, h, e => by
    rcases List.mem_cons.mp e with rfl | e
    · exact ⟨q, by simp, h.1⟩
    · obtain ⟨p, h1, h2⟩ := Pgs.of h.2 e
      exact ⟨p, by simp [h1], h2⟩
  | [], _ :: _, _, h, _ => h.elim
  | _ :: _, [], _, h, _ => h.elim
def Ls (ps : List (List Int)) : D := .lst (ps.map fun p => .lst (p.map D.int))
theorem Pgs.reps {H : Hp} : ∀ {bs : List Addr} {ps : List (List Int)}, Pgs H bs ps → Reps H (bs.map V.ref) (ps.map fun p => D.lst (p.map D.int))
  | [], [], _ => .nil
  | b :: bs, p :: ps, h => .cons (rep_ints h.1) h.2.reps
  | [], _ :: _, h => h.elim
  | _ :: _, [], h => h.elim
theorem Pgs.rep {H : Hp} {a : Addr} {bs : List Addr} {ps : List (List Int)} (h : Pgs H bs ps) (e : H a = some (.lst (bs.map V.ref))) : Rep H (.ref a) (Ls ps) := .lst e h.reps
end L3
namespace L3
open PySem L2
def way (k : Int) : Tr → List Int
  | .nil => []
  | .node l x r => if x = k then [k] else x :: (if k < x then way k l else way k r)
def at_ (k : Int) : Tr → Tr
  | .nil => .nil
  | .node l x r => if x = k then .node l x r else if k < x then at_ k l else at_ k r
theorem way_len (k : Int) : ∀ t : Tr, (way k t).length ≤ t.ht
  | .nil => Nat.le_refl _
  | .node l x r => by
    have h1 := way_len k l
    have h2 := way_len k r
    rw [way, Tr.ht]
    split
    · simp
    · rw [List.length_cons]
      split <;> omega
theorem ord_bd : ∀ (t : Tr) (lo hi : Option Int), t.ord lo hi → ∀ y ∈ t.keys, (∀ a, lo = some a → a < y) ∧ ∀ b, hi = some b → y < b
  | .nil, lo, hi, _, y, hy => by simp [Tr.keys] at hy
  | .node l x r, lo, hi, h, y, hy => by
    obtain ⟨h1, h2, h3, h4⟩ := h
    simp only [Tr.keys, List.mem_append, List.mem_singleton] at hy
    rcases hy with (hy | hy) | hy
    · obtain ⟨g1, g2⟩ := ord_bd l lo (some x) h3 y hy
      refine ⟨g1, fun b hb => ?_⟩
      have := g2 x rfl
      have := h2 b hb
      omega
    · subst hy; exact ⟨h1, h2⟩
    · obtain ⟨g1, g2⟩ := ord_bd r (some x) hi h4 y hy
      refine ⟨fun a ha => ?_, g2⟩
      have := g1 x rfl
      have := h1 a ha
      omega
theorem ord_l {l r : Tr} {x : Int} {lo hi : Option Int} (h : (Tr.node l x r).ord lo hi) {y : Int} (hy : y ∈ l.keys) : y < x := (ord_bd l lo (some x) h.2.2.1 y hy).2 x rfl
theorem ord_r {l r : Tr} {x : Int} {lo hi : Option Int} (h : (Tr.node l x r).ord lo hi) {y : Int} (hy : y ∈ r.keys) : x < y := (ord_bd r (some x) hi h.2.2.2 y hy).1 x rfl
theorem ord_rise : ∀ (t : Tr) (lo hi : Option Int), t.ord lo hi → t.keys.Pairwise (· < ·)
  | .nil, _, _, _ => by simp [Tr.keys]
  | .node l x r, lo, hi, h => by
    have g1 := ord_rise l _ _ h.2.2.1
    have g2 := ord_rise r _ _ h.2.2.2
    rw [Tr.keys, List.append_assoc, List.pairwise_append]
    refine ⟨g1, ?_, fun a ha b hb => ?_⟩
    · rw [List.singleton_append, List.pairwise_cons]
      exact ⟨fun b hb => ord_r h hb, g2⟩
    · have := ord_l h ha
      rw [List.singleton_append] at hb
      rcases List.mem_cons.mp hb with rfl | hb
      · exact this
      · have := ord_r h hb; omega
theorem way_sub (k : Int) : ∀ (t : Tr) (y : Int), y ∈ way k t → y ∈ t.keys
  | .nil, y, h => by simp [way] at h
  | .node l x r, y, h => by
    rw [way] at h
    rw [Tr.keys]
    split at h
    · rename_i hx
      simp at h
      subst h hx
      simp
    · rcases List.mem_cons.mp h with rfl | h
      · simp
      · split at h
        · have := way_sub k l y h; simp [this]
        · have := way_sub k r y h; simp [this]
theorem at_sub (k : Int) : ∀ (t : Tr) (y : Int), y ∈ (at_ k t).keys → y ∈ t.keys
  | .nil, y, h => h
  | .node l x r, y, h => by
    rw [at_] at h
    split at h
    · exact h
    · rw [Tr.keys]
      split at h
      · have := at_sub k l y h; simp [this]
      · have := at_sub k r y h; simp [this]
theorem at_node (k : Int) : ∀ (t : Tr) (lo hi : Option Int), t.ord lo hi → k ∈ t.keys → ∃ l r, at_ k t = .node l k r
  | .nil, _, _, _, h => by simp [Tr.keys] at h
  | .node l x r, lo, hi, h, hk => by
    rw [at_]
    split
    · rename_i hx; subst hx; exact ⟨l, r, rfl⟩
    · rename_i hx
      simp only [Tr.keys, List.mem_append, List.mem_singleton] at hk
      split
      · rename_i hlt
        refine at_node k l _ _ h.2.2.1 ?_
        rcases hk with (hk | hk) | hk
        · exact hk
        · exact absurd hk.symm hx
        · have := ord_r h hk; omega
      · rename_i hlt
        refine at_node k r _ _ h.2.2.2 ?_
        rcases hk with (hk | hk) | hk
        · have := ord_l h hk; omega
        · exact absurd hk.symm hx
        · exact hk
theorem rise_ext : ∀ (xs ys : List Int), xs.Pairwise (· < ·) → ys.Pairwise (· < ·) → (∀ a, a ∈ xs ↔ a ∈ ys) → xs = ys
  | [], [], _, _, _ => rfl
  | [], y :: ys, _, _, h => by have := (h y).mpr (by simp); simp at this
  | x :: xs, [], _, _, h => by have := (h x).mp (by simp); simp at this
  | x :: xs, y :: ys, hx, hy, h => by
    rw [List.pairwise_cons] at hx hy
    have e : x = y := by
      rcases List.mem_cons.mp ((h x).mp (by simp)) with e | e
      · exact e
      · rcases List.mem_cons.mp ((h y).mpr (by simp)) with e' | e'
        · exact e'.symm
        · have := hx.1 y e'
          have := hy.1 x e
          omega
    subst e
    congr 1
    refine rise_ext xs ys hx.2 hy.2 fun a => ?_
    have ha := h a
    simp only [List.mem_cons] at ha
    constructor
    · intro z
      rcases ha.mp (.inr z) with e | e
      · have := hx.1 a z; omega
      · exact e
    · intro z
      rcases ha.mpr (.inr z) with e | e
      · have := hy.1 a z; omega
      · exact e
end L3
namespace L3
open PySem L2
theorem join {G : Prop} {N : L2.St → Hp → Prop} (M : L2.St → Hp → Prop) (h2 : (∀ σ H, M σ H → N σ H) → G) (h1 : ∀ σ H, M σ H → N σ H) : G := h2 h1
theorem valV_none' : ∀ {kvs : List (Key × V)} {k : Key}, k ∉ kvs.map (·.1) → valV kvs k = none
  | [], _, _ => rfl
  | (k', x) :: r, k, h => by
    simp only [List.map_cons, List.mem_cons, not_or] at h
    rw [valV_neg (fun z => h.1 z.symm)]
    exact valV_none' h.2
theorem valV_some' : ∀ {kvs : List (Key × V)} {k : Key} {x : V}, (kvs.map (·.1)).Nodup → (k, x) ∈ kvs → valV kvs k = some x
  | [], _, _, _, h => by simp at h
  | (k', x') :: r, k, x, hn, h => by
    rw [List.map_cons, List.nodup_cons] at hn
    rcases List.mem_cons.mp h with e | h
    · cases e; exact valV_pos rfl
    · have hne : ¬ k' = k := fun z => hn.1 (by rw [z]; exact List.mem_map.mpr ⟨_, h, rfl⟩)
      rw [valV_neg hne]
      exact valV_some' hn.2 h
theorem merge_app : ∀ (more kvs : List (Key × V)), ((kvs ++ more).map (·.1)).Nodup → mergeK kvs more = kvs ++ more
  | [], kvs, _ => by simp [mergeK]
  | (k, x) :: r, kvs, h => by
    have hk : k ∉ kvs.map (·.1) := by
      rw [List.map_append, List.nodup_append] at h
      intro hm
      exact h.2.2 k hm k (by simp) rfl
    have h' : ((kvs ++ [(k, x)] ++ r).map (·.1)).Nodup := by simpa using h
    show mergeK (putK kvs k x) r = _
    rw [putK_new _ (valV_none' hk), merge_app r _ h']
    simp
theorem rd_mono {H H' : Hp} {d : Addr} {u : HO} (h : Rd H d u) (s : Same H H') : Rd H' d u := by
  rcases h with h | ⟨o, h⟩
  · exact .inl (s _ _ h)
  · exact .inr ⟨o, s _ _ h⟩
def upW (w : List Int) : Option Int := if 1 < w.length then w[w.length - 2]? else none
def upsL : Tr → Option Int → List (Key × V)
  | .nil, _ => []
  | .node l x r, u => ((Sum.inl x : Key), vO u) :: (upsL l (some x) ++ upsL r (some x))
theorem upsL_perm : ∀ (t : Tr) (u : Option Int), ((upsL t u).map (·.1)).Perm (t.keys.map (fun y => (Sum.inl y : Key)))
  | .nil, _ => List.Perm.refl _
  | .node l x r, u => by
    have h1 := upsL_perm l (some x)
    have h2 := upsL_perm r (some x)
    rw [upsL, Tr.keys, List.map_cons, List.map_append, List.map_append, List.map_append, List.append_assoc]
    refine List.Perm.trans ((h1.append h2).cons _) ?_
    exact List.perm_middle.symm
theorem upsL_nodup {t : Tr} (h : t.keys.Nodup) (u : Option Int) : ((upsL t u).map (·.1)).Nodup := by
  refine (upsL_perm t u).nodup_iff.mpr ?_
  rw [List.Nodup, List.pairwise_map]
  exact h.imp (fun h z => h (Sum.inl.inj z))
def upK (k : Int) : Tr → Option Int → Option Int
  | .nil, u => u
  | .node l x r, u => if x = k then u else if k < x then upK k l (some x) else upK k r (some x)
theorem key_side {l r : Tr} {x k : Int} {lo hi : Option Int} (h : (Tr.node l x r).ord lo hi) (hk : k ∈ (Tr.node l x r).keys) (hx : ¬ x = k) : (k < x → k ∈ l.keys) ∧ (¬ k < x → k ∈ r.keys) := by
  simp only [Tr.keys, List.mem_append, List.mem_singleton] at hk
  constructor
  · intro hlt
    rcases hk with (hk | hk) | hk
    · exact hk
    · exact absurd hk.symm hx
    · have := ord_r h hk; omega
  · intro hlt
    rcases hk with (hk | hk) | hk
    · have := ord_l h hk; omega
    · exact absurd hk.symm hx
    · exact hk
theorem upsL_mem (k : Int) : ∀ (t : Tr) (u : Option Int) (lo hi : Option Int), t.ord lo hi → k ∈ t.keys → ((Sum.inl k : Key), vO (upK k t u)) ∈ upsL t u
  | .nil, _, _, _, _, h => by simp [Tr.keys] at h
  | .node l x r, u, lo, hi, h, hk => by
    rw [upK, upsL]
    by_cases hx : x = k
    · rw [if_pos hx, hx]; simp
    · rw [if_neg hx]
      obtain ⟨g1, g2⟩ := key_side h hk hx
      by_cases hlt : k < x
      · rw [if_pos hlt]
        exact List.mem_cons_of_mem _ (List.mem_append_left _ (upsL_mem k l _ _ _ h.2.2.1 (g1 hlt)))
      · rw [if_neg hlt]
        exact List.mem_cons_of_mem _ (List.mem_append_right _ (upsL_mem k r _ _ _ h.2.2.2 (g2 hlt)))
theorem upK_way (k : Int) : ∀ (t : Tr) (u : Option Int) (lo hi : Option Int), t.ord lo hi → k ∈ t.keys → upK k t u = if 1 < (way k t).length then (way k t)[(way k t).length - 2]? else u
  | .nil, _, _, _, _, h => by simp [Tr.keys] at h
  | .node l x r, u, lo, hi, h, hk => by
    rw [upK, way]
    by_cases hx : x = k
    · rw [if_pos hx, if_pos hx]; simp
    · rw [if_neg hx, if_neg hx]
      obtain ⟨g1, g2⟩ := key_side h hk hx
      have step : ∀ (s : Tr), upK k s (some x) = (if 1 < (way k s).length then (way k s)[(way k s).length - 2]? else some x) → 0 < (way k s).length → upK k s (some x) = if 1 < (x :: way k s).length then (x :: way k s)[(x :: way k s).length - 2]? else u := by
        intro s e hp
        have hp2 : 1 < (way k s).length + 1 := by omega
        rw [List.length_cons, if_pos hp2, e]
        by_cases h1 : 1 < (way k s).length
        · rw [if_pos h1]
          have e1 : (way k s).length + 1 - 2 = ((way k s).length - 2) + 1 := by omega
          rw [e1, List.getElem?_cons_succ]
        · rw [if_neg h1]
          have e1 : (way k s).length + 1 - 2 = 0 := by omega
          rw [e1]; rfl
      have pos : ∀ (s : Tr) (a b : Option Int), s.ord a b → k ∈ s.keys → 0 < (way k s).length := fun s a b ho hm => by
        cases s with
        | nil => simp [Tr.keys] at hm
        | node l' x' r' => rw [way]; split <;> simp
      by_cases hlt : k < x
      · rw [if_pos hlt, if_pos hlt]
        exact step l (upK_way k l _ _ _ h.2.2.1 (g1 hlt)) (pos l _ _ h.2.2.1 (g1 hlt))
      · rw [if_neg hlt, if_neg hlt]
        exact step r (upK_way k r _ _ _ h.2.2.2 (g2 hlt)) (pos r _ _ h.2.2.2 (g2 hlt))
theorem upsL_val {t : Tr} {k : Int} (h : t.ord none none) (hk : k ∈ t.keys) : valV (upsL t none) (Sum.inl k : Key) = some (vO (upW (way k t))) := by
  have hn : t.keys.Nodup := (ord_rise t _ _ h).imp (fun h => by omega)
  have h1 := valV_some' (upsL_nodup hn none) (upsL_mem k t none _ _ h hk)
  rw [h1, upK_way k t none _ _ h hk]; rfl
theorem up_higher (k u : Int) : ∀ (t : Tr) (lo hi : Option Int), t.ord lo hi → k ∈ t.keys → upW (way k t) = some u → u ∈ t.keys ∧ (way u t).length < (way k t).length
  | .nil, _, _, _, h, _ => by simp [Tr.keys] at h
  | .node l x r, lo, hi, h, hk, hu => by
    have hk' : k ∈ (Tr.node l x r).keys := hk
    unfold upW at hu
    have ew : way k (Tr.node l x r) = if x = k then [k] else x :: (if k < x then way k l else way k r) := by rw [way]
    rw [ew] at hu ⊢
    by_cases hx : x = k
    · rw [if_pos hx] at hu; simp at hu
    · rw [if_neg hx] at hu ⊢
      obtain ⟨g1, g2⟩ := key_side h hk' hx
      have step : ∀ (s : Tr) (a b : Option Int), s.ord a b → k ∈ s.keys → (∀ y ∈ s.keys, y ∈ (Tr.node l x r).keys ∧ (way y (Tr.node l x r)).length = (way y s).length + 1) → (if 1 < (x :: way k s).length then (x :: way k s)[(x :: way k s).length - 2]? else none) = some u → (upW (way k s) = some u → u ∈ s.keys ∧ (way u s).length < (way k s).length) → u ∈ (Tr.node l x r).keys ∧ (way u (Tr.node l x r)).length < (x :: way k s).length := by
        intro s a b ho hm hsub he ih
        have hp : 0 < (way k s).length := by
          cases s with
          | nil => simp [Tr.keys] at hm
          | node l' x' r' => rw [way]; split <;> simp
        rw [List.length_cons, if_pos (by omega)] at he
        by_cases h1 : 1 < (way k s).length
        · have e1 : (way k s).length + 1 - 2 = ((way k s).length - 2) + 1 := by omega
          rw [e1, List.getElem?_cons_succ] at he
          obtain ⟨i1, i2⟩ := ih (by unfold upW; rw [if_pos h1]; exact he)
          obtain ⟨j1, j2⟩ := hsub u i1
          exact ⟨j1, by rw [j2, List.length_cons]; omega⟩
        · have e1 : (way k s).length + 1 - 2 = 0 := by omega
          rw [e1] at he
          have : x = u := by simpa using he
          subst this
          refine ⟨by simp [Tr.keys], ?_⟩
          rw [way, if_pos rfl, List.length_cons]; simp; omega
      by_cases hlt : k < x
      · rw [if_pos hlt] at hu ⊢
        refine step l _ _ h.2.2.1 (g1 hlt) (fun y hy => ⟨by simp [Tr.keys, hy], ?_⟩) hu (up_higher k u l _ _ h.2.2.1 (g1 hlt))
        have := ord_l h hy
        rw [way, if_neg (by omega), if_pos this, List.length_cons]
      · rw [if_neg hlt] at hu ⊢
        refine step r _ _ h.2.2.2 (g2 hlt) (fun y hy => ⟨by simp [Tr.keys, hy], ?_⟩) hu (up_higher k u r _ _ h.2.2.2 (g2 hlt))
        have := ord_r h hy
        rw [way, if_neg (by omega), if_neg (by omega), List.length_cons]
end L3
namespace L3
open PySem L2
def unI : V → Int
  | .int i => i
  | _ => 0
theorem Pgs.set {H : Hp} {y : Int} : ∀ {bs : List Addr} {ps : List (List Int)} {j : Nat} {b : Addr} {q : List Int}, Pgs H bs ps → bs.Nodup → bs[j]? = some b → ps[j]? = some q → Pgs (upd H b (.lst (q.map V.int ++ [.int y]))) bs (ps.set j (q ++ [y]))
  | [], [], _, _, _, _, _, e, _ => by simp at e
  | c :: bs, p :: ps, 0, b, q, h, hn, e, e2 => by
    simp at e e2
    subst e e2
    rw [List.nodup_cons] at hn
    refine ⟨by rw [upd_same, List.map_append]; rfl, h.2.stay fun d hd => upd_ne (fun z => hn.1 (z ▸ hd))⟩
  | c :: bs, p :: ps, j + 1, b, q, h, hn, e, e2 => by
    rw [List.nodup_cons] at hn
    have e' : bs[j]? = some b := by simpa using e
    have hcb : c ≠ b := fun z => hn.1 (z ▸ List.mem_of_getElem? e')
    exact ⟨by rw [upd_ne hcb]; exact h.1, Pgs.set h.2 hn.2 e' (by simpa using e2)⟩
  | [], _ :: _, _, _, _, h, _, _, _ => h.elim
  | _ :: _, [], _, _, _, h, _, _, _ => h.elim
end L3
namespace L3
open PySem L2
def numN (pss : List (List Int)) : Nat → Int → Option Nat
  | 0, _ => none
  | i + 1, y => if y ∈ pss.getD i [] then some i else numN pss i y
theorem numN_some (pss : List (List Int)) (y : Int) : ∀ i, i ≤ pss.length → ((numN pss i y).isSome = true ↔ y ∈ (pss.take i).flatten)
  | 0, _ => by simp [numN]
  | i + 1, h => by
    have hq : pss[i]? = some pss[i] := List.getElem?_eq_getElem (by omega)
    have ih := numN_some pss y i (by omega)
    rw [numN, List.getD_eq_getElem?_getD, hq, List.take_add_one, hq, List.flatten_append, List.mem_append]
    by_cases hy : y ∈ pss[i]
    · simp [hy]
    · simp only [Option.getD_some, hy, if_false, ih]
      simp [hy]
def numP (pss : List (List Int)) (y : Int) : Nat := (numN pss pss.length y).getD 0
theorem numN_in (pss : List (List Int)) (y : Int) : ∀ i n, numN pss i y = some n → n < i ∧ y ∈ pss.getD n []
  | 0, n, h => by simp [numN] at h
  | i + 1, n, h => by
    rw [numN] at h
    by_cases hy : y ∈ pss.getD i []
    · rw [if_pos hy] at h
      cases h
      exact ⟨by omega, hy⟩
    · rw [if_neg hy] at h
      have := numN_in pss y i n h
      exact ⟨by omega, this.2⟩
theorem numP_eq {pss : List (List Int)} {y : Int} (h : y ∈ pss.flatten) : numN pss pss.length y = some (numP pss y) := by
  have := (numN_some pss y pss.length (Nat.le_refl _)).mpr (by rw [List.take_length]; exact h)
  unfold numP
  cases e : numN pss pss.length y with
  | none => rw [e] at this; cases this
  | some n => rfl
theorem numP_lt {pss : List (List Int)} {y : Int} (h : y ∈ pss.flatten) : numP pss y < pss.length ∧ y ∈ pss.getD (numP pss y) [] := numN_in pss y _ _ (numP_eq h)
theorem numP_uniq : ∀ {pss : List (List Int)} {y : Int} {i j : Nat}, pss.flatten.Nodup → y ∈ pss.getD i [] → y ∈ pss.getD j [] → i = j
  | [], _, i, _, _, h, _ => by simp at h
  | q :: r, y, 0, 0, _, _, _ => rfl
  | q :: r, y, 0, j + 1, hn, h1, h2 => by
    exfalso
    rw [List.flatten_cons, List.nodup_append] at hn
    have h1 : y ∈ q := h1
    have h2 : y ∈ r.getD j [] := h2
    refine hn.2.2 y h1 y ?_ rfl
    rw [List.getD_eq_getElem?_getD] at h2
    cases e : r[j]? with
    | none => rw [e] at h2; simp at h2
    | some q' => rw [e] at h2; exact List.mem_flatten.mpr ⟨q', List.mem_of_getElem? e, h2⟩
  | q :: r, y, i + 1, 0, hn, h1, h2 => by
    exfalso
    rw [List.flatten_cons, List.nodup_append] at hn
    have h2 : y ∈ q := h2
    have h1 : y ∈ r.getD i [] := h1
    refine hn.2.2 y h2 y ?_ rfl
    rw [List.getD_eq_getElem?_getD] at h1
    cases e : r[i]? with
    | none => rw [e] at h1; simp at h1
    | some q' => rw [e] at h1; exact List.mem_flatten.mpr ⟨q', List.mem_of_getElem? e, h1⟩
  | q :: r, y, i + 1, j + 1, hn, h1, h2 => by
    rw [List.flatten_cons, List.nodup_append] at hn
    have := numP_uniq (pss := r) (i := i) (j := j) hn.2.1 h1 h2
    omega
theorem numP_is {pss : List (List Int)} {y : Int} {i : Nat} (hn : pss.flatten.Nodup) (h : y ∈ pss.getD i []) : numP pss y = i := by
  have hm : y ∈ pss.flatten := by
    rw [List.getD_eq_getElem?_getD] at h
    cases e : pss[i]? with
    | none => rw [e] at h; simp at h
    | some q' => rw [e] at h; exact List.mem_flatten.mpr ⟨q', List.mem_of_getElem? e, h⟩
  exact numP_uniq hn (numP_lt hm).2 h
def ddS (acc : List Int) (n : Int) : List Int := if n ∈ acc then acc else acc ++ [n]
def dd (ws : List Int) : List Int := ws.foldl ddS []
end L3
namespace K18
open PySem L2 L3
def top (i : Nat) : Stmt := PySem.Challenge.pw_leafpages_k18_least_costs_told.main.body.getD i (.Pass ⟨0, 0, 0, 0⟩)
abbrev s_keys_of : Stmt := top 1
theorem sc_keys_of : FnScope ["tree"] ["tree"] (defScope s_keys_of) := ⟨rfl, rfl, rfl, by decide +kernel, rfl, by decide +kernel, by decide +kernel⟩
abbrev s_with_kids : Stmt := top 2
theorem sc_with_kids : FnScope ["tree", "kids"] ["tree"] (defScope s_with_kids) := ⟨rfl, rfl, rfl, by decide +kernel, rfl, by decide +kernel, by decide +kernel⟩
abbrev s_side_towards : Stmt := top 3
theorem sc_side_towards : FnScope ["tree", "key"] ["tree", "key"] (defScope s_side_towards) := ⟨rfl, rfl, rfl, by decide +kernel, rfl, by decide +kernel, by decide +kernel⟩
abbrev s_knot_at : Stmt := top 4
theorem sc_knot_at : FnScope ["tree", "key"] ["tree", "key"] (defScope s_knot_at) := ⟨rfl, rfl, rfl, by decide +kernel, rfl, by decide +kernel, by decide +kernel⟩
abbrev s_pages_tied : Stmt := top 6
theorem sc_pages_tied : FnScope ["tree", "tied", "pages", "key", "kids", "page", "kid"] ["tree", "tied"] (defScope s_pages_tied) := ⟨rfl, rfl, rfl, by decide +kernel, rfl, by decide +kernel, by decide +kernel⟩
abbrev s_burdens_by_key : Stmt := top 8
theorem sc_burdens_by_key : FnScope ["tree", "weights", "told", "key", "kids"] ["tree", "weights"] (defScope s_burdens_by_key) := ⟨rfl, rfl, rfl, by decide +kernel, rfl, by decide +kernel, by decide +kernel⟩
abbrev s_side_sums : Stmt := top 9
theorem sc_side_sums : FnScope ["side", "room", "burdens", "told", "costs"] ["side", "room", "burdens", "told"] (defScope s_side_sums) := ⟨rfl, rfl, rfl, by decide +kernel, rfl, by decide +kernel, by decide +kernel⟩
abbrev s_sums_over_shares : Stmt := top 10
theorem sc_sums_over_shares : FnScope ["knot", "most", "room", "burdens", "told", "left", "right"] ["knot", "most", "room", "burdens", "told"] (defScope s_sums_over_shares) := ⟨rfl, rfl, rfl, by decide +kernel, rfl, by decide +kernel, by decide +kernel⟩
abbrev s_made_costs : Stmt := top 11
theorem sc_made_costs : FnScope ["knot", "room", "burdens", "told"] ["knot", "room", "burdens", "told"] (defScope s_made_costs) := ⟨rfl, rfl, rfl, by decide +kernel, rfl, by decide +kernel, by decide +kernel⟩
abbrev s_costs_by_key : Stmt := top 12
theorem sc_costs_by_key : FnScope ["tree", "room", "burdens", "told", "key", "kids"] ["tree", "room", "burdens"] (defScope s_costs_by_key) := ⟨rfl, rfl, rfl, by decide +kernel, rfl, by decide +kernel, by decide +kernel⟩
abbrev s_tied_below : Stmt := top 13
theorem sc_tied_below : FnScope ["knot", "most", "room", "burdens", "told", "sums", "left_share", "tied", "side", "share"] ["knot", "most", "room", "burdens", "told"] (defScope s_tied_below) := ⟨rfl, rfl, rfl, by decide +kernel, rfl, by decide +kernel, by decide +kernel⟩
abbrev s_least_cost : Stmt := top 14
theorem sc_least_cost : FnScope ["tree", "burdens", "told"] ["tree", "burdens", "told"] (defScope s_least_cost) := ⟨rfl, rfl, rfl, by decide +kernel, rfl, by decide +kernel, by decide +kernel⟩
abbrev s_cheapest : Stmt := top 15
theorem sc_cheapest : FnScope ["tree", "room", "weights", "burdens", "told", "layout"] ["tree", "room", "weights"] (defScope s_cheapest) := ⟨rfl, rfl, rfl, by decide +kernel, rfl, by decide +kernel, by decide +kernel⟩
abbrev s_never_rises : Stmt := top 16
theorem sc_never_rises : FnScope ["costs"] ["costs"] (defScope s_never_rises) := ⟨rfl, rfl, rfl, by decide +kernel, rfl, by decide +kernel, by decide +kernel⟩
abbrev s_is_at_most : Stmt := top 17
theorem sc_is_at_most : FnScope ["costs", "made"] ["costs", "made"] (defScope s_is_at_most) := ⟨rfl, rfl, rfl, by decide +kernel, rfl, by decide +kernel, by decide +kernel⟩
abbrev s_shows_cost : Stmt := top 18
theorem sc_shows_cost : FnScope ["tree", "room", "weights", "table", "number", "told", "burdens", "key", "costs", "made"] ["tree", "room", "weights", "table", "number"] (defScope s_shows_cost) := ⟨rfl, rfl, rfl, by decide +kernel, rfl, by decide +kernel, by decide +kernel⟩
abbrev s_law_pen : Stmt := top 20
theorem sc_law_pen : FnScope ["_law_script", "_law_k", "_law_cell"] ["_law_script", "_law_k"] (defScope s_law_pen) := ⟨rfl, rfl, rfl, by decide +kernel, rfl, by decide +kernel, by decide +kernel⟩
abbrev s_law_draw : Stmt := top 21
theorem sc_law_draw : FnScope ["_law_pen_here", "_law_many", "_law_drawn", "_law_number"] ["_law_pen_here", "_law_many"] (defScope s_law_draw) := ⟨rfl, rfl, rfl, by decide +kernel, rfl, by decide +kernel, by decide +kernel⟩
abbrev s_law_put : Stmt := top 22
theorem sc_law_put : FnScope ["_law_tree_here", "_law_key"] ["_law_tree_here", "_law_key"] (defScope s_law_put) := ⟨rfl, rfl, rfl, by decide +kernel, rfl, by decide +kernel, by decide +kernel⟩
abbrev s_law_keys : Stmt := top 23
theorem sc_law_keys : FnScope ["_law_pen_here", "_law_many", "_law_far", "_law_wide", "_law_key", "_law_keys_here", "_law_k"] ["_law_pen_here", "_law_many"] (defScope s_law_keys) := ⟨rfl, rfl, rfl, by decide +kernel, rfl, by decide +kernel, by decide +kernel⟩
abbrev s_law_tree : Stmt := top 24
theorem sc_law_tree : FnScope ["_law_pen_here", "_law_keys_here", "_law_tree_here", "_law_form", "_law_left", "_law_at"] ["_law_pen_here", "_law_keys_here"] (defScope s_law_tree) := ⟨rfl, rfl, rfl, by decide +kernel, rfl, by decide +kernel, by decide +kernel⟩
abbrev s_law_weight : Stmt := top 25
theorem sc_law_weight : FnScope ["_law_pen_here", "_law_kind"] ["_law_pen_here"] (defScope s_law_weight) := ⟨rfl, rfl, rfl, by decide +kernel, rfl, by decide +kernel, by decide +kernel⟩
abbrev s_law_reckoned : Stmt := top 26
theorem sc_law_reckoned : FnScope ["_law_tree_here", "_law_room", "_law_by", "_law_rows", "_law_one", "_law_left", "_law_other", "_law_right", "_law_heavy", "_law_costs", "_law_k", "_law_sum_told", "_law_i"] ["_law_tree_here", "_law_room", "_law_by", "_law_rows"] (defScope s_law_reckoned) := ⟨rfl, rfl, rfl, by decide +kernel, rfl, by decide +kernel, by decide +kernel⟩
abbrev s_law_ups : Stmt := top 27
theorem sc_law_ups : FnScope ["_law_tree_here", "_law_up", "_law_ups_here"] ["_law_tree_here", "_law_up", "_law_ups_here"] (defScope s_law_ups) := ⟨rfl, rfl, rfl, by decide +kernel, rfl, by decide +kernel, by decide +kernel⟩
abbrev s_law_page_of : Stmt := top 28
theorem sc_law_page_of : FnScope ["_law_layout", "_law_keys_here", "_law_room", "_law_pages", "_law_number", "_law_page", "_law_key"] ["_law_layout", "_law_keys_here", "_law_room"] (defScope s_law_page_of) := ⟨rfl, rfl, rfl, by decide +kernel, rfl, by decide +kernel, by decide +kernel⟩
abbrev s_law_dear : Stmt := top 29
theorem sc_law_dear : FnScope ["_law_layout", "_law_ups_here", "_law_pages", "_law_by", "_law_number", "_law_page", "_law_heads", "_law_key", "_law_dear_here", "_law_there", "_law_up"] ["_law_layout", "_law_ups_here", "_law_pages", "_law_by"] (defScope s_law_dear) := ⟨rfl, rfl, rfl, by decide +kernel, rfl, by decide +kernel, by decide +kernel⟩
abbrev s_law_raised : Stmt := top 30
theorem sc_law_raised : FnScope ["_law_pen_here", "_law_costs", "_law_at", "_law_key", "_law_some", "_law_k", "_law_more"] ["_law_pen_here", "_law_costs"] (defScope s_law_raised) := ⟨rfl, rfl, rfl, by decide +kernel, rfl, by decide +kernel, by decide +kernel⟩
abbrev s_law : Stmt := top 31
theorem sc_law : FnScope ["_law_script", "_law_pen_here", "_law_keys_here", "_law_room", "_law_tree_here", "_law_weights", "_law_by", "_law_ups_here", "_law_rows", "_law_heavy", "_law_side", "_law_turn", "_law_handed", "_law_told", "_law_sum_told", "_law_layout", "_law_costs", "_law_pages", "_law_bent", "_law_page"] ["_law_script"] (defScope s_law) := ⟨rfl, rfl, rfl, by decide +kernel, rfl, by decide +kernel, by decide +kernel⟩
structure Tx (K : PySem.W.Frag) (mg : Str → Option Value) : Prop where
  b_all : mg "all" = none
  b_any : mg "any" = none
  b_bool : mg "bool" = none
  b_dict : mg "dict" = none
  b_enumerate : mg "enumerate" = none
  b_int : mg "int" = none
  b_isinstance : mg "isinstance" = none
  b_len : mg "len" = none
  b_list : mg "list" = none
  b_min : mg "min" = none
  b_range : mg "range" = none
  b_sorted : mg "sorted" = none
  b_sum : mg "sum" = none
  b_tuple : mg "tuple" = none
  b_zip : mg "zip" = none
def spPen (K : PySem.W.Frag) : Sp := fun vs H Q _ => ∃ (a : Addr) (k : Int) (ns : List Int), vs = [.ref a, .int k] ∧ SqL K H a (ns.map V.int) ∧ ns.length ≤ 63 ∧ 0 ≤ k ∧ k ≤ 63 ∧ ∀ p H', H p = none → Same H H' → Pen3 H' p → Q (.ref p) H'
def spDraw : Sp := fun vs H Q _ => ∃ (p : Addr) (c : Int), vs = [.ref p, .int c] ∧ Pen3 H p ∧ 0 < c ∧ c < 10 ^ 100 ∧ ∀ r H', 0 ≤ r → r < c → Pen3 H' p → Same (rm p H) H' → Q (.int r) H'
def Rise (xs : List Int) : Prop := xs.Pairwise (· < ·)
def spKeys : Sp := fun vs H Q _ => ∃ (p : Addr) (n : Int), vs = [.ref p, .int n] ∧ Pen3 H p ∧ 0 ≤ n ∧ n ≤ 60 ∧ ∀ (r : Addr) (H' : Hp) (xs : List Int), H r = none → Same (rm p H) H' → Pen3 H' p → H' r = some (.lst (xs.map V.int)) → Rise xs → (xs.length : Int) = n → Q (.ref r) H'
theorem rise_snoc {xs : List Int} {x : Int} (h : Rise xs) (hx : ∀ y ∈ xs, y < x) : Rise (xs ++ [x]) := by
  unfold Rise
  rw [List.pairwise_append]
  exact ⟨h, by simp, fun a ha b hb => by rw [List.mem_singleton] at hb; subst hb; exact hx a ha⟩
section
variable {P : Program} {w : World} {K : PySem.W.Frag} {mg : Str → Option Value} {base : Heap}
theorem ok_draw {f : Addr} (F : Fd K mg "_law_draw" s_law_draw f) (T : Tx K mg) : Cal P w K mg base CX0 1 "_law_draw" spDraw := by
  refine F.cal sc_law_draw (fun _ _ _ _ _ _ us hl => L3.bind2 (fun _ _ => rfl) us hl) (fun vs H Q E h => ?_) (fun cdv A outer s H vs Q E hr h => ?_)
  · obtain ⟨p, c, rfl, _⟩ := h; rfl
  · obtain ⟨p, c, rfl, ⟨m, n, d, hp⟩, hc, hc2, k⟩ := h
    have hcB : CDivB m c := ⟨hc, Int.lt_trans hc2 (by decide +kernel)⟩
    refine ⟨_, (bcons (sasg (qop rAdd (qix (xIx K) (qv 0) qint (fun _ _ => rfl)) qint) (gsub (qv 0) qint xSet))
      (bcons (sif (tcmp rGt (qix (xIx K) (qv 0) qint (fun _ _ => rfl)) qint (nomark _)) (bcons (sset (i := 2) sc_law_draw.nd rfl (by first | exact Or.inl rfl | exact Or.inr rfl) (qop rMod (qix (xIx K) (qv 0) qint (fun _ _ => rfl)) (qv 1)))
        (bcons (sasg (qop rDivB (qix (xIx K) (qv 0) qint (fun _ _ => rfl)) (qv 1)) (gsub (qv 0) qint xSet))
        (bone (sret (qv 2))))) bnil)
      (bcons (sset (i := 3) sc_law_draw.nd rfl (by first | exact Or.inl rfl | exact Or.inr rfl) (qop rMod (qop rMul (qop rAdd (qop rAdd (qix (xIx K) (qv 0) qint (fun _ _ => rfl)) (qop rMul qint (qix (xIx K) (qv 0) qint (fun _ _ => rfl)))) qint) qint) qint))
      (bcons (sset (i := 3) sc_law_draw.nd rfl (by first | exact Or.inl rfl | exact Or.inr rfl) (qop rMod (qop rMul (qv 3) (qop rAdd (qop rAdd (qop rMod (qv 3) qint) (qix (xIx K) (qv 0) qint (fun _ _ => rfl))) qint)) qint))
      (bone (sret (qop rMod (qop rDivB (qop rMod (qop rMul (qv 3) (qop rAdd (qop rMod (qv 3) qint) qint)) qint) qint) (qv 1)))))))), ?_⟩
    refine ⟨_, rfl, p, _, 2, _, rfl, rfl, .inl (SqL.of hp), atI_nat (j := 2) rfl, _, rfl, p, _, 2, 2, rfl, rfl, hp, rfl, ?_⟩
    refine ⟨_, rfl, p, _, 0, _, rfl, rfl, .inl (SqL.of upd_same), atI_nat (j := 0) rfl, _, _, rfl, rfl, _, rfl, ?_⟩
    refine ite2 (fun _ => ?_) (fun _ => ?_)
    · refine ⟨_, rfl, p, _, 0, _, rfl, rfl, .inl (SqL.of upd_same), atI_nat (j := 0) rfl, _, rfl, _, _, rfl, rfl, hc, ?_⟩
      refine ⟨_, rfl, p, _, 0, _, rfl, rfl, .inl (SqL.of upd_same), atI_nat (j := 0) rfl, _, rfl, _, _, rfl, rfl, hcB, _, rfl, p, _, 0, 0, rfl, rfl, upd_same, rfl, ?_⟩
      refine ⟨_, rfl, ?_⟩
      exact k (m % c) _ (Int.emod_nonneg _ (by omega)) (Int.emod_lt_of_pos _ hc) ⟨_, _, _, upd_same⟩ (same_upd (same_upd rm_same rm_self) rm_self)
    · refine ⟨_, rfl, p, _, 1, _, rfl, rfl, .inl (SqL.of upd_same), atI_nat (j := 1) rfl, _, rfl, p, _, 2, _, rfl, rfl, .inl (SqL.of upd_same), atI_nat (j := 2) rfl, _, _, rfl, rfl, cmL (by decide), _, _, rfl, rfl, cmR (by decide), _, _, rfl, rfl, (show (0 : Int) < _ by decide), ?_⟩
      have hb : ∀ x q : Int, 0 < q → q < 2147483650 → -(2 ^ 64) < x % q ∧ x % q < 2 ^ 64 := fun x q h1 h2 => by
        have := Int.emod_nonneg x (b := q) (by omega)
        have := Int.emod_lt_of_pos x h1
        omega
      refine ⟨_, rfl, _, rfl, _, _, rfl, rfl, (show (0 : Int) < _ by decide), _, rfl, p, _, 2, _, rfl, rfl, .inl (SqL.of upd_same), atI_nat (j := 2) rfl, _, _, rfl, rfl, cmL (hb _ _ (by decide) (by decide)), _, _, rfl, rfl, (show (0 : Int) < _ by decide), ?_⟩
      refine ⟨_, rfl, _, rfl, _, _, rfl, rfl, (show (0 : Int) < _ by decide), _, _, rfl, rfl, cmL (hb _ _ (by decide) (by decide)), _, _, rfl, rfl, (show (0 : Int) < _ by decide), _, _, rfl, rfl, ⟨by decide, by decide +kernel⟩, _, rfl, _, _, rfl, rfl, hc, ?_⟩
      exact k _ _ (Int.emod_nonneg _ (by omega)) (Int.emod_lt_of_pos _ hc) ⟨_, _, _, upd_same⟩ (same_upd rm_same rm_self)
theorem ok_pen {f : Addr} (F : Fd K mg "_law_pen" s_law_pen f) (T : Tx K mg) : Cal P w K mg base CX0 1 "_law_pen" (spPen K) := by
  refine F.cal sc_law_pen (fun _ _ _ _ _ _ us hl => L3.bind2 (fun _ _ => rfl) us hl) (fun vs H Q E h => ?_) (fun cdv A outer s H vs Q E hr h => ?_)
  · obtain ⟨a, k, ns, rfl, _⟩ := h; rfl
  · obtain ⟨a, k, ns, rfl, ha, hl, h0, h1, q⟩ := h
    refine split 2 (fun σ' H' => H' = H ∧ ∃ cell, σ' = [some (.ref a), some (.int k), some (.int cell)]) ?h2 ?h1
    case h2 =>
      refine ⟨_, (bcons (sif (tcmp rGe (qv 2) (qop rPow qint qint) (nomark _)) (bone (sret (qlst (qcons (qop rSub (qv 2) (qop rPow qint qint)) (qcons (qop rMod (qv 2) qint) (qcons qint qnil)))))) bnil)
      (bone (sret (qlst (qcons qint (qcons (qop rAdd (qop rMod (qv 2) qint) (qop rMul qint (qv 1))) (qcons qint qnil))))))), ?_⟩
      rintro σ' H' ⟨rfl, cell, rfl⟩
      refine ⟨_, rfl, _, _, rfl, rfl, ⟨by decide, by decide, by decide⟩, _, _, rfl, rfl, _, rfl, ?_⟩
      refine ite2 (fun _ => ?_) (fun _ => ?_)
      · exact ⟨_, rfl, _, _, rfl, rfl, ⟨by decide, by decide, by decide⟩, _, _, rfl, rfl, _, rfl, _, _, rfl, rfl, (show (0 : Int) < _ by decide), (show 3 ≤ sizeLine by decide), fun p H' hn s1 e1 _ => q p H' hn s1 ⟨_, _, _, e1⟩⟩
      · exact ⟨_, rfl, _, _, rfl, rfl, (show (0 : Int) < _ by decide), _, rfl, _, _, rfl, rfl, cmL (by decide), (show 3 ≤ sizeLine by decide), fun p H' hn s1 e1 _ => q p H' hn s1 ⟨_, _, _, e1⟩⟩
    case h1 =>
      intro u pu hu
      refine ⟨_, (bcons (sset (i := 2) sc_law_pen.nd rfl (by first | exact Or.inl rfl | exact Or.inr rfl) (qop rAdd (qop rMul qint (qv 1)) qint))
      (bcons (sif (tcmp rLt (qv 1) (qB (fLen K) rfl T.b_len bt_len (qcons (qv 0) qnil)) (nomark _)) (bone (sset (i := 2) sc_law_pen.nd rfl (by first | exact Or.inl rfl | exact Or.inr rfl) (qix (xIx K) (qv 0) (qv 1) (fun _ _ => rfl)))) (bone (sif (tcmp rGt (qB (fLen K) rfl T.b_len bt_len (qcons (qv 0) qnil)) qint (nomark _)) (bone (sset (i := 2) sc_law_pen.nd rfl (by first | exact Or.inl rfl | exact Or.inr rfl) (qop rAdd (qix (xIx K) (qv 0) (qop rMod (qv 1) (qB (fLen K) rfl T.b_len bt_len (qcons (qv 0) qnil))) (fun _ _ => rfl)) (qop rMul qint (qv 1))))) bnil)))
      pu)), ?_⟩
      refine ⟨_, rfl, _, _, rfl, rfl, cmL (by decide), ?_⟩
      have hln : (ns.map V.int).length = ns.length := List.length_map _
      refine ⟨_, rfl, _, rfl, a, _, rfl, .inl ha, _, _, rfl, rfl, _, rfl, ?_⟩
      refine ite2 (fun hk => ?_) (fun _ => ?_)
      · have hk : k < (((ns.map V.int).length : Nat) : Int) := of_decide_eq_true hk
        obtain ⟨x, hx, _⟩ := atI_ints (ns := ns) (i := k) h0 (by rw [← hln]; exact hk)
        exact ⟨_, rfl, _, rfl, a, _, _, .int x, rfl, rfl, .inl ha, hx, hu _ _ ⟨rfl, _, rfl⟩⟩
      · refine ⟨_, rfl, a, _, rfl, .inl ha, _, _, rfl, rfl, _, rfl, ?_⟩
        refine ite2 (fun hpos => ?_) (fun _ => hu _ _ ⟨rfl, _, rfl⟩)
        have hpos : 0 < (((ns.map V.int).length : Nat) : Int) := of_decide_eq_true hpos
        obtain ⟨x, hx, _⟩ := atI_ints (ns := ns) (i := k % ((ns.map V.int).length : Int)) (Int.emod_nonneg _ (by omega)) (by rw [← hln]; exact Int.emod_lt_of_pos _ hpos)
        refine ⟨_, rfl, _, rfl, _, rfl, a, _, rfl, .inl ha, _, _, rfl, rfl, hpos, a, _, _, .int x, rfl, rfl, .inl ha, hx, _, rfl, _, _, rfl, rfl, cmL (by decide), ?_⟩
        exact hu _ _ ⟨rfl, _, rfl⟩
theorem ok_keys {f : Addr} (F : Fd K mg "_law_keys" s_law_keys f) (T : Tx K mg) (C_law_draw : Cal P w K mg base CX0 1 "_law_draw" spDraw) : Cal P w K mg base CX0 2 "_law_keys" spKeys := by
  refine F.cal sc_law_keys (fun _ _ _ _ _ _ us hl => L3.bind2 (fun _ _ => rfl) us hl) (fun vs H Q E h => ?_) (fun cdv A outer s H vs Q E hr h => ?_)
  · obtain ⟨p, n, rfl, _⟩ := h; rfl
  · obtain ⟨p, n, rfl, hp, h0, h1, q⟩ := h
    refine ⟨_, (bcons (sset (i := 2) sc_law_keys.nd rfl (by first | exact Or.inl rfl | exact Or.inr rfl) (qix (xIx K) (qlst (qcons qint (qcons (qop rPow qint qint) (qcons qint (qcons (qop rPow qint qint) qnil))))) (qF C_law_draw (hr.mono (by omega)) pass0 rfl (qcons (qv 0) (qcons qint qnil))) (fun _ _ => rfl)))
      (bcons (sset (i := 3) sc_law_keys.nd rfl (by first | exact Or.inl rfl | exact Or.inr rfl) (qix (xIx K) (qlst (qcons qint (qcons qint (qcons (qop rPow qint qint) qnil)))) (qF C_law_draw (hr.mono (by omega)) pass0 rfl (qcons (qv 0) (qcons qint qnil))) (fun _ _ => rfl)))
      (bcons (sset (i := 4) sc_law_keys.nd rfl (by first | exact Or.inl rfl | exact Or.inr rfl) (qop rMul (qop rSub (qF C_law_draw (hr.mono (by omega)) pass0 rfl (qcons (qv 0) (qcons qint qnil))) qint) (qv 2)))
      (bcons (sset (i := 5) sc_law_keys.nd rfl (by first | exact Or.inl rfl | exact Or.inr rfl) (qlst qnil))
      (bcons (sfor PassesOwn.never rfl (irange1 rfl T.b_range (qcons (qv 1) qnil)) (gname (i := 6) sc_law_keys.nd rfl (by first | exact Or.inl rfl | exact Or.inr rfl))
        (bcons (sset (i := 4) sc_law_keys.nd rfl (by first | exact Or.inl rfl | exact Or.inr rfl) (qop rAdd (qop rAdd (qv 4) qint) (qF C_law_draw (hr.mono (by omega)) pass0 rfl (qcons (qv 0) (qcons (qv 3) qnil)))))
        (bone (sexpr (qBm K PySem.F.plainAttrs_list PySem.F.slot_list_append PySem.F.type_list_append mAppend (qv 5) (qcons (qv 4) qnil))))))
      (bone (sret (qv 5)))))))), ?_⟩
    refine ⟨_, _, rfl, rfl, ⟨by decide, by decide, by decide⟩, _, _, rfl, rfl, ⟨by decide, by decide, by decide⟩, (show 4 ≤ sizeLine by decide), fun l1 H1 n1 s1 e1 _ => ?_⟩
    refine ⟨_, rfl, p, 4, rfl, hp.mono s1, by decide, by decide, fun r2 H2 r20 r21 p2 s2 => ?_⟩
    obtain ⟨far, hf, hfm⟩ := atI_ints (ns := [1, 10 ^ 50, 1, 10 ^ 9]) r20 r21
    refine ⟨l1, _, r2, .int far, rfl, rfl, .inl (SqL.of (rm_look s2 e1 (hp.ne n1))), hf, ?_⟩
    have t2 : Same (rm p H) H2 := rm_trans (rm_same.trans s1) s2
    refine ⟨_, _, rfl, rfl, ⟨by decide, by decide, by decide⟩, (show 3 ≤ sizeLine by decide), fun l3 H3 n3 s3 e3 _ => ?_⟩
    refine ⟨_, rfl, p, 3, rfl, p2.mono s3, by decide, by decide, fun r4 H4 r40 r41 p4 s4 => ?_⟩
    obtain ⟨wide, hw, hwm⟩ := atI_ints (ns := [1, 4, 10 ^ 6]) r40 r41
    have hw1 : 0 < wide ∧ wide ≤ 10 ^ 6 := by
      simp only [List.mem_cons, List.not_mem_nil, or_false] at hwm
      omega
    refine ⟨l3, _, r4, .int wide, rfl, rfl, .inl (SqL.of (rm_look s4 e3 (p2.ne n3))), hw, ?_⟩
    have t4 : Same (rm p H) H4 := rm_trans (t2.trans s3) s4
    refine ⟨_, rfl, p, 201, rfl, p4, by decide, by decide, fun r5 H5 r50 r51 p5 s5 => ?_⟩
    refine ⟨_, _, rfl, rfl, _, rfl, _, _, rfl, rfl, cmL ⟨by omega, by omega⟩, ?_⟩
    have t5 := rm_trans t4 s5
    refine ⟨(show 0 ≤ sizeLine by decide), fun l6 H6 n6 s6 e6 _ => ?_⟩
    have t6 : Same (rm p H) H6 := t5.trans s6
    have h6p := p5.ne n6
    have l6n : (rm p H) l6 = none := t5.free n6
    refine ⟨_, rfl, n, rfl, by omega, by omega, for_range (n := n.toNat) (fun i σ H' => ∃ z xs key, σ = [some (.ref p), some (.int n), some (.int far), some (.int wide), some (.int key), some (.ref l6), z] ∧ Same (rm p H) H' ∧ Pen3 H' p ∧ H' l6 = some (.lst (xs.map V.int)) ∧ xs.length = i ∧ Rise xs ∧ ∀ y ∈ xs, y ≤ key)
      ⟨none, [], _, rfl, t6, p5.mono s6, e6, rfl, List.Pairwise.nil, by simp⟩ ?_ ?_⟩
    · rintro i σ H7 hi ⟨z, xs, key, rfl, t7, p7, e7, hl7, hr7, hk7⟩
      refine ⟨_, rfl, _, rfl, _, rfl, p, wide, rfl, p7, hw1.1, by omega, fun r8 H8 r80 r81 p8 s8 => ?_⟩
      have e8 := rm_look s8 e7 h6p
      refine ⟨_, rfl, .inl ⟨rfl, _, SqL.of e8⟩, _, rfl, l6, _, _, rfl, rfl, e8, sizeBig (by rw [List.length_map]; omega), ?_⟩
      exact ⟨_, xs ++ [key + 1 + r8], _, rfl, same_upd (rm_trans t7 s8) l6n, p8.off h6p.symm, by rw [upd_same, List.map_append]; rfl, by simp [hl7], rise_snoc hr7 (fun y hy => by have := hk7 y hy; omega), fun y hy => by
        rcases List.mem_append.mp hy with hy | hy
        · have := hk7 y hy; omega
        · rw [List.mem_singleton] at hy; omega⟩
    · rintro σ H7 ⟨z, xs, key, rfl, t7, p7, e7, hl7, hr7, hk7⟩
      exact ⟨_, rfl, q l6 H7 xs (p5.free t5 n6) t7 p7 e7 hr7 (by omega)⟩
end
end K18
namespace K18
open PySem L2 L3
theorem rep_upd {H : Hp} {l : Addr} {xs : List V} {o : HO} (e : H l = some (.lst xs)) (t : Tr) {v : V} (h : Rep H v t.d) : Rep (upd H l o) v t.d := (rep_rm e t h).mono (same_upd rm_same rm_self)
theorem ord_of_rise : ∀ (t : Tr) (lo hi : Option Int), Rise t.keys → (∀ y ∈ t.keys, ∀ a, lo = some a → a < y) → (∀ y ∈ t.keys, ∀ b, hi = some b → y < b) → t.ord lo hi
  | .nil, _, _, _, _, _ => trivial
  | .node l x r, lo, hi, h, h1, h2 => by
    unfold Rise at h
    rw [Tr.keys, List.append_assoc, List.pairwise_append] at h
    obtain ⟨g1, g2, g3⟩ := h
    rw [List.singleton_append, List.pairwise_cons] at g2
    have mx : x ∈ (Tr.node l x r).keys := by simp [Tr.keys]
    have ml : ∀ y ∈ l.keys, y ∈ (Tr.node l x r).keys := fun y hy => by simp [Tr.keys, hy]
    have mr : ∀ y ∈ r.keys, y ∈ (Tr.node l x r).keys := fun y hy => by simp [Tr.keys, hy]
    refine ⟨h1 x mx, h2 x mx, ord_of_rise l _ _ g1 (fun y hy => h1 y (ml y hy)) (fun y hy b hb => ?_), ord_of_rise r _ _ g2.2 (fun y hy a ha => ?_) (fun y hy => h2 y (mr y hy))⟩
    · cases hb; exact g3 y hy x (by simp)
    · cases ha; exact g2.1 y hy
theorem rise_nodup {xs : List Int} (h : Rise xs) : xs.Nodup := h.imp (fun h => by omega)
def spPut (n : Nat) : Sp := fun vs H Q _ => ∃ (v : V) (k : Int) (t : Tr), vs = [v, .int k] ∧ Rep H v (Tr.d t) ∧ t.ht < n ∧ ∀ (r : V) (H' : Hp), Same H H' → Rep H' r (t.ins k).d → Q r H'
def spTree : Sp := fun vs H Q _ => ∃ (p a : Addr) (xs : List Int), vs = [.ref p, .ref a] ∧ Pen3 H p ∧ a ≠ p ∧ H a = some (.lst (xs.map V.int)) ∧ Rise xs ∧ xs.length ≤ 60 ∧ ∀ (r : V) (H' : Hp) (t : Tr), Same (rm p H) H' → Pen3 H' p → Rep H' r t.d → t.keys = xs → Q r H'
def TW (p a l : Addr) (form : Int) (B : Hp) (xs : List Int) (m : Nat) (σ : L2.St) (H : Hp) : Prop :=
  ∃ z v zs t, σ = [some (.ref p), some (.ref a), some v, some (.int form), some (.ref l), z] ∧ Same B H ∧ Pen3 H p ∧ H l = some (.lst (zs.map V.int)) ∧ Rep H v (Tr.d t) ∧ t.ord none none ∧ (t.keys ++ zs).Perm xs ∧ m = zs.length
section
variable {P : Program} {w : World} {K : PySem.W.Frag} {mg : Str → Option Value} {base : Heap}
theorem ok_put {f : Addr} (F : Fd K mg "_law_put" s_law_put f) (T : Tx K mg) : ∀ n, Cal P w K mg base CX0 n "_law_put" (spPut n) := by
  intro n
  induction n with
  | zero => exact F.none (ps := ["_law_tree_here", "_law_key"]) (fun _ _ _ _ _ _ us hl => L3.bind2 (fun _ _ => rfl) us hl) fun vs H Q E hh => by obtain ⟨v, k, t, _, _, h2, _⟩ := hh; omega
  | succ n C_law_put =>
    refine F.cal sc_law_put (fun _ _ _ _ _ _ us hl => L3.bind2 (fun _ _ => rfl) us hl) (fun vs H Q E h => ?_) (fun cdv A outer s H vs Q E hr h => ?_)
    · obtain ⟨v, k, t, rfl, _⟩ := h; rfl
    · obtain ⟨v, k, t, rfl, hv, ht, q⟩ := h
      refine ⟨_, (bcons (sif (tcmp rIs (qv 0) qnon (nomark _)) (bone (sret (qtup (qcons qnon (qcons (qv 1) (qcons qnon qnil)))))) bnil)
      (bcons (sif (tcmp rLt (qv 1) (qix (xIx K) (qv 0) qint (fun _ _ => rfl)) (nomark _)) (bone (sret (qtup (qcons (qF C_law_put (hr.mono (by omega)) pass0 rfl (qcons (qix (xIx K) (qv 0) qint (fun _ _ => rfl)) (qcons (qv 1) qnil))) (qcons (qix (xIx K) (qv 0) qint (fun _ _ => rfl)) (qcons (qix (xIx K) (qv 0) qint (fun _ _ => rfl)) qnil)))))) bnil)
      (bone (sret (qtup (qcons (qix (xIx K) (qv 0) qint (fun _ _ => rfl)) (qcons (qix (xIx K) (qv 0) qint (fun _ _ => rfl)) (qcons (qF C_law_put (hr.mono (by omega)) pass0 rfl (qcons (qix (xIx K) (qv 0) qint (fun _ _ => rfl)) (qcons (qv 1) qnil))) qnil)))))))), ?_⟩
      cases t with
      | nil =>
        cases rep_nil hv
        refine ⟨_, rfl, rfl, _, rfl, ?_⟩
        exact ⟨_, rfl, (show 3 ≤ sizeLine by decide), fun a H1 n1 s1 e1 _ => q _ _ s1 (rep_mk e1 .non .non)⟩
      | node l x r =>
        obtain ⟨a, vl, vr, rfl, ea, hl, hr'⟩ := rep_node hv
        refine ⟨_, rfl, rfl, _, rfl, ?_⟩
        refine ⟨_, rfl, _, rfl, a, _, 1, _, rfl, rfl, .inr (SqT.of ea), atI_nat (j := 1) rfl, _, _, rfl, rfl, _, rfl, ?_⟩
        simp only [Tr.ht] at ht
        refine ite2 (fun hlt => ?_) (fun hlt => ?_)
        · have hlt : k < x := of_decide_eq_true hlt
          refine ⟨_, rfl, a, _, 0, _, rfl, rfl, .inr (SqT.of ea), atI_nat (j := 0) rfl, _, rfl, vl, k, l, rfl, hl, by omega, fun r1 H1 s1 g1 => ?_⟩
          have ea1 := s1 _ _ ea
          refine ⟨_, rfl, a, _, 1, _, rfl, rfl, .inr (SqT.of ea1), atI_nat (j := 1) rfl, _, rfl, a, _, 2, _, rfl, rfl, .inr (SqT.of ea1), atI_nat (j := 2) rfl, (show 3 ≤ sizeLine by decide), fun a2 H2 n2 s2 e2 _ => ?_⟩
          refine q _ _ (s1.trans s2) ?_
          rw [Tr.ins, if_pos hlt]
          exact rep_mk e2 (g1.mono s2) (hr'.mono (s1.trans s2))
        · have hlt : ¬ k < x := fun z => hlt (decide_eq_true z)
          refine ⟨_, rfl, a, _, 0, _, rfl, rfl, .inr (SqT.of ea), atI_nat (j := 0) rfl, _, rfl, a, _, 1, _, rfl, rfl, .inr (SqT.of ea), atI_nat (j := 1) rfl, _, rfl, a, _, 2, _, rfl, rfl, .inr (SqT.of ea), atI_nat (j := 2) rfl, _, rfl, vr, k, r, rfl, hr', by omega, fun r1 H1 s1 g1 => ?_⟩
          refine ⟨(show 3 ≤ sizeLine by decide), fun a2 H2 n2 s2 e2 _ => ?_⟩
          refine q _ _ (s1.trans s2) ?_
          rw [Tr.ins, if_neg hlt]
          exact rep_mk e2 (hl.mono (s1.trans s2)) (g1.mono s2)
theorem ok_tree {f : Addr} (F : Fd K mg "_law_tree" s_law_tree f) (T : Tx K mg) (C_law_draw : Cal P w K mg base CX0 1 "_law_draw" spDraw) (C_law_put : Cal P w K mg base CX0 70 "_law_put" (spPut 70)) : Cal P w K mg base CX0 71 "_law_tree" spTree := by
  refine F.cal sc_law_tree (fun _ _ _ _ _ _ us hl => L3.bind2 (fun _ _ => rfl) us hl) (fun vs H Q E h => ?_) (fun cdv A outer s H vs Q E hr h => ?_)
  · obtain ⟨p, a, xs, rfl, _⟩ := h; rfl
  · obtain ⟨p, a, xs, rfl, hp, hap, ea, hr0, h60, q⟩ := h
    refine ⟨_, (bcons (sset (i := 2) sc_law_tree.nd rfl (by first | exact Or.inl rfl | exact Or.inr rfl) qnon)
      (bcons (sset (i := 3) sc_law_tree.nd rfl (by first | exact Or.inl rfl | exact Or.inr rfl) (qF C_law_draw (hr.mono (by omega)) pass0 rfl (qcons (qv 0) (qcons qint qnil))))
      (bcons (sset (i := 4) sc_law_tree.nd rfl (by first | exact Or.inl rfl | exact Or.inr rfl) (qTy (fList K) rfl T.b_list bt_list (qcons (qv 1) qnil)))
      (bcons (swhile PassesOwn.never (tcmp (rNeq hr) (qv 4) (qlst qnil) (nomark _))
        (bcons (sset (i := 5) sc_law_tree.nd rfl (by first | exact Or.inl rfl | exact Or.inr rfl) (qix (xIx K) (qlst (qcons qint (qcons (qop rSub (qB (fLen K) rfl T.b_len bt_len (qcons (qv 4) qnil)) qint) (qcons (qop rMul (qop rMod (qB (fLen K) rfl T.b_len bt_len (qcons (qv 4) qnil)) qint) (qop rSub (qB (fLen K) rfl T.b_len bt_len (qcons (qv 4) qnil)) qint)) (qcons (qop rDivB (qB (fLen K) rfl T.b_len bt_len (qcons (qv 4) qnil)) qint) qnil))))) (qB fMin2 rfl T.b_min bt_min (qcons (qv 3) (qcons qint qnil))) (fun _ _ => rfl)))
        (bcons (sif (tcmp rGt (qv 3) qint (nomark _)) (bone (sset (i := 5) sc_law_tree.nd rfl (by first | exact Or.inl rfl | exact Or.inr rfl) (qF C_law_draw (hr.mono (by omega)) pass0 rfl (qcons (qv 0) (qcons (qB (fLen K) rfl T.b_len bt_len (qcons (qv 4) qnil)) qnil))))) bnil)
        (bone (sset (i := 2) sc_law_tree.nd rfl (by first | exact Or.inl rfl | exact Or.inr rfl) (qF C_law_put (hr.mono (by omega)) pass0 rfl (qcons (qv 2) (qcons (qBm K PySem.F.plainAttrs_list PySem.F.slot_list_pop PySem.F.type_list_pop mPopAt (qv 4) (qcons (qv 5) qnil)) qnil))))))))
      (bone (sret (qv 2))))))), ?_⟩
    refine ⟨_, rfl, p, 7, rfl, hp, by decide, by decide, fun form H1 f0 f1 p1 s1 => ?_⟩
    have ea1 := rm_look s1 ea hap
    refine ⟨_, rfl, a, _, rfl, .inl (SqL.of ea1), fun l H2 n2 s2 e2 _ => ?_⟩
    have hlp := p1.ne n2
    have ln : (rm p H) l = none := s1.free n2
    refine ⟨TW p a l form (rm p H) xs, ⟨_, none, .non, xs, .nil, rfl, s1.trans s2, p1.mono s2, e2, .non, trivial, List.Perm.refl _, rfl⟩, ?_⟩
    rintro m σ H3 ⟨z, v, zs, t, rfl, s3, p3, e3, g3, o3, pm, rfl⟩
    have hln : (zs.map V.int).length = zs.length := List.length_map _
    have hzl : t.size + zs.length = xs.length := by
      have := pm.length_eq
      rw [List.length_append, Tr.keys_length] at this
      exact this
    refine ⟨_, rfl, (show 0 ≤ sizeLine by decide), fun l4 H4 n4 s4 e4 _ => ?_⟩
    refine ne_ints (ys := []) (s4 _ _ e3) e4 ?_
    refine ⟨_, rfl, ?_⟩
    by_cases hz : zs = []
    · rw [decide_eq_true hz]
      refine iteF ?_
      refine ⟨_, rfl, q v H4 t (s3.trans s4) (p3.mono s4) (g3.mono s4) ?_⟩
      rw [hz, List.append_nil] at pm
      exact rise_ext _ _ (ord_rise t _ _ o3) hr0 fun y => pm.mem_iff
    rw [decide_eq_false hz]
    refine iteT ?_
    have hpos : 0 < zs.length := List.length_pos_iff.mpr hz
    refine ⟨fun σ' H' => ∃ m', m' < zs.length ∧ TW p a l form (rm p H) xs m' σ' H', fun _ _ z => z, ?_⟩
    have e34 := s4 _ _ e3
    have e3s : ∀ H', Same H4 H' → H' l = some (.lst (zs.map V.int)) := fun H' s => s _ _ e34
    refine ⟨_, rfl, l, _, rfl, .inl (SqL.of e34), _, _, rfl, rfl, _, rfl, l, _, rfl, .inl (SqL.of e34), _, _, rfl, rfl, (show (0 : Int) < 2 by decide), _, rfl, l, _, rfl, .inl (SqL.of e34), _, _, rfl, rfl, _, _, rfl, rfl, ?_, _, rfl, l, _, rfl, .inl (SqL.of e34), _, _, rfl, rfl, ⟨by decide, by decide +kernel⟩, (show 4 ≤ sizeLine by decide), fun l5 H5 n5 s5 e5 _ => ?_⟩
    · refine cmL ?_
      have := Int.emod_nonneg (((zs.map V.int).length : Nat) : Int) (show (2 : Int) ≠ 0 by decide)
      have := Int.emod_lt_of_pos (((zs.map V.int).length : Nat) : Int) (show (0 : Int) < 2 by decide)
      omega
    rw [hln] at e5
    -- the last statement
    have fin : ∀ (at_ : Int) (H' : Hp), 0 ≤ at_ → at_ < zs.length → Same (rm p H) H' → Pen3 H' p → H' l = some (.lst (zs.map V.int)) → Rep H' v t.d →
        ∃ k : Nat, ∃ y : Int, at_ = (k : Int) ∧ k < zs.length ∧ zs[k]? = some y ∧ ∀ (r : V) (H6 : Hp), Same (upd H' l (.lst ((zs.map V.int).eraseIdx k))) H6 → Rep H6 r (t.ins y).d → ∀ z, ∃ m', m' < zs.length ∧ TW p a l form (rm p H) xs m' [some (.ref p), some (.ref a), some r, some (.int form), some (.ref l), z] H6 := by
      intro at_ H' a0 a1 sH pH eH gH
      obtain ⟨k, rfl⟩ : ∃ k : Nat, at_ = (k : Int) := ⟨at_.toNat, by omega⟩
      have hk : k < zs.length := by omega
      refine ⟨k, zs[k], rfl, hk, List.getElem?_eq_getElem hk, fun r H6 s6 g6 z => ?_⟩
      have hpe := erase_perm zs k zs[k] (List.getElem?_eq_getElem hk)
      have hel := erase_len zs k hk
      have hny : zs[k] ∉ t.keys := fun hm => by
        have hnd := (pm.nodup_iff.mpr (rise_nodup hr0))
        rw [List.nodup_append] at hnd
        exact hnd.2.2 _ hm _ (List.getElem_mem hk) rfl
      refine ⟨_, by omega, z, r, zs.eraseIdx k, t.ins zs[k], rfl, (same_upd sH ln).trans s6, (pH.off hlp.symm).mono s6, ?_, g6, Tr.ins_ord _ t _ _ o3 hny (by simp) (by simp), ?_, rfl⟩
      · rw [s6 _ _ upd_same, erase_map]
      · refine List.Perm.trans ?_ pm
        have h1 : ((t.ins zs[k]).keys).Perm (zs[k] :: t.keys) := by
          have n1 : (t.ins zs[k]).keys.Nodup := rise_nodup (ord_rise _ _ _ (Tr.ins_ord _ t _ _ o3 hny (by simp) (by simp)))
          have n2 : (zs[k] :: t.keys).Nodup := List.nodup_cons.mpr ⟨hny, rise_nodup (ord_rise _ _ _ o3)⟩
          rw [List.perm_iff_count]
          intro b
          rw [n1.count, n2.count]
          have := Tr.mem_ins zs[k] b t
          simp only [this, List.mem_cons]
        refine (h1.append_right _).trans ?_
        refine List.Perm.trans ?_ (hpe.append_left t.keys)
        rw [List.cons_append]
        exact List.perm_middle.symm
    refine ⟨_, rfl, form, 3, rfl, ?_⟩
    obtain ⟨v0, hv0, hm0⟩ := atI_ints (ns := [0, (zs.length : Int) - 1, (zs.length : Int) % 2 * ((zs.length : Int) - 1), (zs.length : Int) / 2]) (i := if 3 < form then 3 else form) (by split <;> omega) (by simp only [List.length_cons, List.length_nil]; split <;> omega)
    refine ⟨l5, _, _, .int v0, rfl, rfl, .inl (SqL.of e5), hv0, ?_⟩
    have hb : 0 ≤ v0 ∧ v0 < (zs.length : Int) := by
      have hL : 1 ≤ (zs.length : Int) := by omega
      generalize (zs.length : Int) = L at hm0 hL
      simp only [List.mem_cons, List.not_mem_nil, or_false] at hm0
      rcases hm0 with rfl | rfl | rfl | rfl
      · omega
      · omega
      · rcases Int.emod_two_eq L with e | e <;> rw [e] <;> omega
      · omega
    have s35 := s3.trans (s4.trans s5)
    have p5 := (p3.mono s4).mono s5
    have e35 := s5 _ _ e34
    have g5 := (g3.mono s4).mono s5
    have hht := Tr.ht_size t
    refine ⟨_, rfl, _, _, rfl, rfl, _, rfl, ?_⟩
    refine ite2 (fun _ => ?_) (fun _ => ?_)
    · refine ⟨_, rfl, _, rfl, l, _, rfl, .inl (SqL.of e35), p, _, rfl, p5, by rw [hln]; omega, by rw [hln]; omega, fun r6 H6 r60 r61 p6 s6 => ?_⟩
      rw [hln] at r61
      have e36 := rm_look s6 e35 hlp
      obtain ⟨k, y, rfl, hk, hy, go⟩ := fin r6 H6 r60 r61 (rm_trans s35 s6) p6 e36 ((rep_pen3 p5 t g5).mono s6)
      refine ⟨_, rfl, _, rfl, .inl ⟨rfl, _, SqL.of e36⟩, _, rfl, l, _, _, k, .int y, rfl, rfl, e36, by omega, by omega, seqIx (by rw [hln]; exact hk), by rw [List.getElem?_map, hy]; rfl, ?_⟩
      exact ⟨v, y, t, rfl, rep_upd e36 t ((rep_pen3 p5 t g5).mono s6), by omega, fun r H7 s7 g7 => go r H7 s7 g7 _⟩
    · obtain ⟨k, y, rfl, hk, hy, go⟩ := fin v0 H5 hb.1 hb.2 s35 p5 e35 g5
      refine ⟨_, rfl, _, rfl, .inl ⟨rfl, _, SqL.of e35⟩, _, rfl, l, _, _, k, .int y, rfl, rfl, e35, by omega, by omega, seqIx (by rw [hln]; exact hk), by rw [List.getElem?_map, hy]; rfl, ?_⟩
      exact ⟨v, y, t, rfl, rep_upd e35 t g5, by omega, fun r H7 s7 g7 => go r H7 s7 g7 _⟩
end
end K18
namespace K18
open PySem L2 L3
def spKof (n : Nat) : Sp := fun vs H Q _ => ∃ (v : V) (t : Tr), vs = [v] ∧ Rep H v (Tr.d t) ∧ t.ht < n ∧ t.size ≤ 1000 ∧ ∀ r H', H r = none → Same H H' → H' r = some (.lst (t.keys.map V.int)) → Q (.ref r) H'
def spWk (n : Nat) : Sp := fun vs H Q _ => ∃ (v : V) (t : Tr), vs = [v] ∧ Rep H v (Tr.d t) ∧ t.ht < n ∧ t.size ≤ 1000 ∧ ∀ r H' ws, Same H H' → H' r = some (.lst ws) → Reps H' ws (t.wk.map kidD) → Q (.ref r) H'
section
variable {P : Program} {w : World} {K : PySem.W.Frag} {mg : Str → Option Value} {base : Heap}
theorem ok_kof {f : Addr} (F : Fd K mg "keys_of" s_keys_of f) (T : Tx K mg) : ∀ n, Cal P w K mg base CX0 n "keys_of" (spKof n) := by
  intro n
  induction n with
  | zero => exact (F.none (ps := ["tree"]) (fun _ _ _ _ _ _ us hl => L3.bind1 (fun _ => rfl) us hl) fun vs H Q E hh => by obtain ⟨v, t, _, _, h2, _⟩ := hh; omega)
  | succ n C_keys_of =>
    refine F.cal sc_keys_of (fun _ _ _ _ _ _ us hl => L3.bind1 (fun _ => rfl) us hl) (fun vs H Q E h => ?_) (fun cdv A outer s H vs Q E hr h => ?_)
    · obtain ⟨v, t, rfl, _⟩ := h; rfl
    · obtain ⟨v, t, rfl, hv, ht, hz, q⟩ := h
      refine ⟨_, (bcons (sif (tcmp rIs (qv 0) qnon (nomark _)) (bone (sret (qlst qnil))) bnil)
      (bone (sret (qop rAdd (qop rAdd (qF C_keys_of (hr.mono (by omega)) pass0 rfl (qcons (qix (xIx K) (qv 0) qint (fun _ _ => rfl)) qnil)) (qlst (qcons (qix (xIx K) (qv 0) qint (fun _ _ => rfl)) qnil))) (qF C_keys_of (hr.mono (by omega)) pass0 rfl (qcons (qix (xIx K) (qv 0) qint (fun _ _ => rfl)) qnil)))))), ?_⟩
      cases t with
      | nil =>
        cases rep_nil hv
        exact ⟨_, rfl, rfl, _, rfl, (show 0 ≤ sizeLine by decide), fun r H1 n1 s1 e1 _ => q r H1 n1 s1 e1⟩
      | node l x r =>
        obtain ⟨a, vl, vr, rfl, ea, hl, hr'⟩ := rep_node hv
        simp only [Tr.ht] at ht
        simp only [Tr.size] at hz
        refine ⟨_, rfl, rfl, _, rfl, ?_⟩
        refine ⟨_, rfl, a, _, 0, _, rfl, rfl, .inr (SqT.of ea), atI_nat (j := 0) rfl, vl, l, rfl, hl, by omega, by omega, fun r1 H1 n1 s1 e1 => ?_⟩
        refine ⟨_, rfl, a, _, 1, _, rfl, rfl, .inr (SqT.of (s1 _ _ ea)), atI_nat (j := 1) rfl, (show 1 ≤ sizeLine by decide), fun r2 H2 n2 s2 e2 _ => ?_⟩
        have kl := Tr.keys_length l
        have kr := Tr.keys_length r
        refine ⟨_, _, s2 _ _ e1, e2, sizeBig' (by simp; omega), fun r3 H3 n3 s3 e3 _ => ?_⟩
        have s13 := (s1.trans s2).trans s3
        refine ⟨_, rfl, a, _, 2, _, rfl, rfl, .inr (SqT.of (s13 _ _ ea)), atI_nat (j := 2) rfl, vr, r, rfl, hr'.mono s13, by omega, by omega, fun r4 H4 n4 s4 e4 => ?_⟩
        refine ⟨_, _, s4 _ _ e3, e4, sizeBig' (by simp; omega), fun r5 H5 n5 s5 e5 _ => ?_⟩
        refine q r5 H5 ((s13.trans s4).free n5) ((s13.trans s4).trans s5) ?_
        rw [e5]; simp [Tr.keys]
theorem side_step {H : Hp} {v : V} {t : Tr} (h : Rep H v t.d) : (v = .non ∧ t.key? = []) ∨ ∃ a vl vr k, v = .ref a ∧ H a = some (.tup [vl, .int k, vr]) ∧ t.key? = [k] := by
  cases t with
  | nil => exact .inl ⟨rep_nil h, rfl⟩
  | node l k r => obtain ⟨a, vl, vr, rfl, e, _⟩ := rep_node h; exact .inr ⟨a, vl, vr, k, rfl, e, rfl⟩
theorem key_short (t : Tr) : t.key?.length ≤ 1 := by cases t <;> simp [Tr.key?]
theorem ok_wk {f : Addr} (F : Fd K mg "with_kids" s_with_kids f) (T : Tx K mg) : ∀ n, Cal P w K mg base CX0 n "with_kids" (spWk n) := by
  intro n
  induction n with
  | zero => exact (F.none (ps := ["tree"]) (fun _ _ _ _ _ _ us hl => L3.bind1 (fun _ => rfl) us hl) fun vs H Q E hh => by obtain ⟨v, t, _, _, h2, _⟩ := hh; omega)
  | succ n C_with_kids =>
    refine F.cal sc_with_kids (fun _ _ _ _ _ _ us hl => L3.bind1 (fun _ => rfl) us hl) (fun vs H Q E h => ?_) (fun cdv A outer s H vs Q E hr h => ?_)
    · obtain ⟨v, t, rfl, _⟩ := h; rfl
    · obtain ⟨v, t, rfl, hv, ht, hz, q⟩ := h
      refine ⟨_, (bcons (sif (tcmp rIs (qv 0) qnon (nomark _)) (bone (sret (qlst qnil))) bnil)
      (bcons (ssetC (i := 1) (sc := defScope s_with_kids) (NX := ["tree", "kids"]) ["side"] [none] rfl sc_with_kids.nd rfl rfl (iseq K (qtup (qcons (qix (xIx K) (qv 0) qint (fun _ _ => rfl)) (qcons (qix (xIx K) (qv 0) qint (fun _ _ => rfl)) qnil)))) (fun _ _ _ => (gname (i := 0) (show (["side"] : List Str).Nodup by decide +kernel) rfl (by first | exact Or.inl rfl | exact Or.inr rfl))) (fun _ _ _ => (csone (tcmp rIsNot (qv 0) qnon (nomark _)))) (fun _ _ _ => (qix (xIx K) (qv 0) qint (fun _ _ => rfl))) rfl rfl (by decide +kernel) rfl)
      (bone (sret (qop rAdd (qop rAdd (qF C_with_kids (hr.mono (by omega)) pass0 rfl (qcons (qix (xIx K) (qv 0) qint (fun _ _ => rfl)) qnil)) (qF C_with_kids (hr.mono (by omega)) pass0 rfl (qcons (qix (xIx K) (qv 0) qint (fun _ _ => rfl)) qnil))) (qlst (qcons (qtup (qcons (qix (xIx K) (qv 0) qint (fun _ _ => rfl)) (qcons (qv 1) qnil))) qnil))))))), ?_⟩
      cases t with
      | nil =>
        cases rep_nil hv
        exact ⟨_, rfl, rfl, _, rfl, (show 0 ≤ sizeLine by decide), fun r H1 n1 s1 e1 _ => q r H1 [] s1 e1 .nil⟩
      | node l x r =>
        obtain ⟨a, vl, vr, rfl, ea, hl, hr'⟩ := rep_node hv
        simp only [Tr.ht] at ht
        simp only [Tr.size] at hz
        refine ⟨_, rfl, rfl, _, rfl, ?_⟩
        -- kids
        refine ⟨_, rfl, a, _, 0, _, rfl, rfl, .inr (SqT.of ea), atI_nat (j := 0) rfl, _, rfl, a, _, 2, _, rfl, rfl, .inr (SqT.of ea), atI_nat (j := 2) rfl, (show 2 ≤ sizeLine by decide), fun p1 H1 n1 s1 e1 _ => ?_⟩
        refine ⟨p1, rfl, .inr ⟨⟨_, SqT.of e1⟩, fun acc ha => ?_⟩⟩
        refine comp_tup (xs := [vl, vr]) (fun i ys σ H' => ∃ z, σ = [z] ∧ Same H1 H' ∧ H' acc = some (.lst ys) ∧ ys = ((([l, r] : List Tr).take i).flatMap Tr.key?).map V.int) ⟨none, rfl, same_new ha, upd_same, rfl⟩ (fun i ys σ H' hh => by obtain ⟨_, _, s', _⟩ := hh; exact SqT.of (s' _ _ e1)) ?_ ?_
        · rintro i ys y σ H2 hy hi ⟨z, rfl, s2, e2, rfl⟩
          have hyt : ∃ t : Tr, ([l, r] : List Tr)[i]? = some t ∧ Rep H2 y t.d := by
            match i, hy with
            | 0, hy => simp at hy; subst hy; exact ⟨l, rfl, (hl.mono s1).mono s2⟩
            | 1, hy => simp at hy; subst hy; exact ⟨r, rfl, (hr'.mono s1).mono s2⟩
          obtain ⟨ty, hty, gy⟩ := hyt
          have htk : (([l, r] : List Tr).take (i + 1)).flatMap Tr.key? = (([l, r] : List Tr).take i).flatMap Tr.key? ++ ty.key? := by rw [List.take_add_one, hty]; simp
          have hsm : ((([l, r] : List Tr).take i).flatMap Tr.key?).length ≤ 2 := by
            have h1 := key_short l
            have h2 := key_short r
            match i, hi with
            | 0, _ => simp
            | 1, _ => simp; omega
          rcases side_step gy with ⟨rfl, hk⟩ | ⟨b, bl, br, k, rfl, eb, hk⟩
          · refine ⟨_, rfl, rfl, _, rfl, ?_⟩
            refine cskip hi (ys := ((([l, r] : List Tr).take i).flatMap Tr.key?).map V.int) ?_
            exact ⟨_, rfl, s2, e2, by rw [htk, hk, List.append_nil]⟩
          · refine ⟨_, rfl, rfl, _, rfl, ?_⟩
            refine ⟨_, rfl, b, _, 1, _, rfl, rfl, .inr (SqT.of eb), atI_nat (j := 1) rfl, ?_⟩
            refine cpost e2 (sizeBig (by rw [List.length_map]; omega)) hi ?_
            exact ⟨_, rfl, same_upd s2 ha, upd_same, by rw [htk, hk, List.map_append]; rfl⟩
        · rintro ys σ H2 ⟨z, rfl, s2, e2, rfl⟩
          have s12 : Same H H2 := s1.trans s2
          have hks : ((([l, r] : List Tr).take [vl, vr].length).flatMap Tr.key?) = l.key? ++ r.key? := by simp
          rw [hks] at e2
          -- the lists of both sides
          refine ⟨_, rfl, a, _, 0, _, rfl, rfl, .inr (SqT.of (s12 _ _ ea)), atI_nat (j := 0) rfl, vl, l, rfl, hl.mono s12, by omega, by omega, fun r3 H3 w3 s3 e3 g3 => ?_⟩
          have s13 := s12.trans s3
          refine ⟨_, rfl, a, _, 2, _, rfl, rfl, .inr (SqT.of (s13 _ _ ea)), atI_nat (j := 2) rfl, vr, r, rfl, hr'.mono s13, by omega, by omega, fun r4 H4 w4 s4 e4 g4 => ?_⟩
          have l3 := g3.length
          have l4 := g4.length
          rw [List.length_map, Tr.wk_length] at l3 l4
          refine ⟨_, _, s4 _ _ e3, e4, sizeBig' (by omega), fun r5 H5 n5 s5 e5 _ => ?_⟩
          have s15 := (s13.trans s4).trans s5
          refine ⟨_, rfl, a, _, 1, _, rfl, rfl, .inr (SqT.of (s15 _ _ ea)), atI_nat (j := 1) rfl, _, rfl, (show 2 ≤ sizeLine by decide), fun r6 H6 n6 s6 e6 _ => ?_⟩
          refine ⟨(show 1 ≤ sizeLine by decide), fun r7 H7 n7 s7 e7 _ => ?_⟩
          refine ⟨_, _, s7 _ _ (s6 _ _ e5), e7, sizeBig' (by simp; omega), fun r8 H8 n8 s8 e8 _ => ?_⟩
          have s38 : Same H3 H8 := s4.trans (s5.trans (s6.trans (s7.trans s8)))
          have s48 : Same H4 H8 := s5.trans (s6.trans (s7.trans s8))
          refine q r8 H8 _ (s15.trans (s6.trans (s7.trans s8))) e8 ?_
          rw [Tr.wk, List.map_append, List.map_append]
          refine ((g3.mono s38).append (g4.mono s48)).append (.cons (.tup (s8 _ _ (s7 _ _ e6)) (.cons (.int x) (.cons (.lst (s38 _ _ (s3 _ _ e2)) ?_) .nil))) .nil)
          exact Reps.ints _
end
end K18
namespace K18
open PySem L2 L3
def sw (wt : Int → Int) (t : Tr) : Int := (t.keys.map wt).sum
theorem sw_node (wt : Int → Int) (l r : Tr) (x : Int) : sw wt (.node l x r) = wt x + sw wt l + sw wt r := by
  unfold sw
  rw [Tr.keys]
  simp only [List.map_append, List.sum_append, List.map_cons, List.map_nil, List.sum_cons, List.sum_nil]
  omega
theorem ord_lr {l r : Tr} {x : Int} {lo hi : Option Int} (h : (Tr.node l x r).ord lo hi) : (∀ k ∈ l.keys, k < x) ∧ ∀ k ∈ r.keys, x < k := by
  have := ord_rise _ _ _ h
  rw [Tr.keys, List.pairwise_append, List.pairwise_append] at this
  obtain ⟨⟨_, _, h1⟩, _, h2⟩ := this
  exact ⟨fun k hk => h1 k hk x (by simp), fun k hk => h2 x (by simp) k hk⟩
theorem at_left {l r : Tr} {x k : Int} (h : k < x) : at_ k (.node l x r) = at_ k l := by rw [at_, if_neg (by omega), if_pos h]
theorem at_right {l r : Tr} {x k : Int} (h : x < k) : at_ k (.node l x r) = at_ k r := by rw [at_, if_neg (by omega), if_neg (by omega)]
theorem at_self {l r : Tr} {x : Int} : at_ x (.node l x r) = .node l x r := by rw [at_, if_pos rfl]
theorem wk_keys : ∀ (t : Tr) (k : Int), k ∈ t.wk.map (·.1) ↔ k ∈ t.keys
  | .nil, k => by simp [Tr.wk, Tr.keys]
  | .node l x r, k => by
    have h1 := wk_keys l k
    have h2 := wk_keys r k
    rw [Tr.wk, Tr.keys, List.map_append, List.map_append, List.mem_append, List.mem_append, h1, h2, List.mem_append, List.mem_append]
    simp only [List.map_cons, List.map_nil, List.mem_singleton]
    constructor
    · rintro ((h | h) | h)
      · exact .inl (.inl h)
      · exact .inr h
      · exact .inl (.inr h)
    · rintro ((h | h) | h)
      · exact .inl (.inl h)
      · exact .inr h
      · exact .inl (.inr h)
theorem wk_at : ∀ (t : Tr) (lo hi : Option Int), t.ord lo hi → ∀ e ∈ t.wk, ∃ l r, at_ e.1 t = .node l e.1 r ∧ e.2 = l.key? ++ r.key?
  | .nil, _, _, _, e, he => by simp [Tr.wk] at he
  | .node l x r, lo, hi, h, e, he => by
    obtain ⟨g1, g2⟩ := ord_lr h
    rw [Tr.wk] at he
    rcases List.mem_append.mp he with he | he
    · rcases List.mem_append.mp he with he | he
      · have hk := (wk_keys l e.1).mp (List.mem_map.mpr ⟨e, he, rfl⟩)
        rw [at_left (g1 _ hk)]
        exact wk_at l _ _ h.2.2.1 e he
      · have hk := (wk_keys r e.1).mp (List.mem_map.mpr ⟨e, he, rfl⟩)
        rw [at_right (g2 _ hk)]
        exact wk_at r _ _ h.2.2.2 e he
    · rw [List.mem_singleton] at he
      subst he
      exact ⟨l, r, at_self, rfl⟩
theorem key_wk {t : Tr} {k : Int} (h : k ∈ t.key?) : k ∈ t.wk.map (·.1) := by
  cases t with
  | nil => simp [Tr.key?] at h
  | node l x r => simp [Tr.key?] at h; subst h; rw [Tr.wk]; simp
theorem wk_pre : ∀ (t : Tr) (i : Nat) (e : Int × List Int), t.wk[i]? = some e → ∀ k ∈ e.2, k ∈ (t.wk.take i).map (·.1)
  | .nil, i, e, h, _, _ => by simp [Tr.wk] at h
  | .node l x r, i, e, h, k, hk => by
    rw [Tr.wk] at h ⊢
    by_cases h1 : i < l.wk.length
    · rw [List.append_assoc, List.getElem?_append_left h1] at h
      rw [List.append_assoc, List.take_append_of_le_length (by omega)]
      exact wk_pre l i e h k hk
    · rw [List.append_assoc, List.getElem?_append_right (by omega)] at h
      rw [List.append_assoc, List.take_append, List.map_append, List.take_of_length_le (by omega), List.mem_append]
      by_cases h2 : i - l.wk.length < r.wk.length
      · rw [List.getElem?_append_left h2] at h
        rw [List.take_append_of_le_length (by omega)]
        exact .inr (wk_pre r _ e h k hk)
      · rw [List.getElem?_append_right (by omega)] at h
        have hi : i - l.wk.length - r.wk.length = 0 := by
          have := (List.getElem?_eq_some_iff.mp h).1
          simp at this; omega
        rw [hi] at h
        simp at h
        subst h
        rcases List.mem_append.mp hk with hk | hk
        · exact .inl (key_wk hk)
        · refine .inr ?_
          rw [List.take_append, List.map_append, List.take_of_length_le (by omega)]
          simp only [List.mem_append]
          exact .inl (key_wk hk)
theorem at_in : ∀ (t : Tr) (lo hi : Option Int), t.ord lo hi → ∀ (x : Int) (l r : Tr), at_ x t = .node l x r → ∀ a k b, (l = .node a k b ∨ r = .node a k b) → at_ k t = .node a k b
  | .nil, _, _, _, x, l, r, h, _, _, _, _ => by simp [at_] at h
  | .node L y R, lo, hi, h, x, l, r, hx, a, k, b, hs => by
    obtain ⟨g1, g2⟩ := ord_lr h
    by_cases hy : y = x
    · subst hy
      rw [at_self] at hx
      cases hx
      rcases hs with rfl | rfl
      · rw [at_left (g1 k (by simp [Tr.keys])), at_self]
      · rw [at_right (g2 k (by simp [Tr.keys])), at_self]
    · rw [at_, if_neg hy] at hx
      by_cases hlt : x < y
      · rw [if_pos hlt] at hx
        have hk : k ∈ (at_ x L).keys := by rw [hx]; rcases hs with rfl | rfl <;> simp [Tr.keys]
        rw [at_left (g1 k (at_sub _ _ _ hk))]
        exact at_in L _ _ h.2.2.1 x l r hx a k b hs
      · rw [if_neg hlt] at hx
        have hk : k ∈ (at_ x R).keys := by rw [hx]; rcases hs with rfl | rfl <;> simp [Tr.keys]
        rw [at_right (g2 k (at_sub _ _ _ hk))]
        exact at_in R _ _ h.2.2.2 x l r hx a k b hs
theorem side_sum {wt : Int → Int} {t s : Tr} (h : ∀ a k b, s = .node a k b → at_ k t = .node a k b) : (s.key?.map (fun k => sw wt (at_ k t))).sum = sw wt s := by
  cases s with
  | nil => rfl
  | node a k b => simp [Tr.key?, h a k b rfl]
theorem bd_step {wt : Int → Int} {t : Tr} (ho : t.ord none none) {e : Int × List Int} (he : e ∈ t.wk) : sw wt (at_ e.1 t) = wt e.1 + (e.2.map (fun k => sw wt (at_ k t))).sum := by
  obtain ⟨l, r, h1, h2⟩ := wk_at t _ _ ho e he
  rw [h2, List.map_append, List.sum_append, side_sum (fun a k b hs => at_in t _ _ ho e.1 l r h1 a k b (.inl hs)), side_sum (fun a k b hs => at_in t _ _ ho e.1 l r h1 a k b (.inr hs))]
  conv => lhs; rw [h1]
  rw [sw_node]; omega
theorem merge_val (wt : Int → Int) (k : Int) : ∀ (ks : List Int) (kvs : List (Key × V)), valV (mergeK kvs (zipK ks ((ks.map wt).map V.int))) (Sum.inl k : Key) = if k ∈ ks then some (.int (wt k)) else valV kvs (Sum.inl k : Key)
  | [], kvs => by simp [zipK]; rfl
  | x :: ks, kvs => by
    show valV (mergeK (putK kvs (Sum.inl x : Key) (.int (wt x))) (zipK ks ((ks.map wt).map V.int))) (Sum.inl k : Key) = _
    rw [merge_val wt k ks]
    by_cases hk : k ∈ ks
    · rw [if_pos hk, if_pos (by simp [hk])]
    · rw [if_neg hk, valV_put]
      by_cases hx : k = x
      · subst hx; rw [if_pos rfl, if_pos (by simp)]
      · rw [if_neg (fun z => hx (Sum.inl.inj z)), if_neg (by simp [hx, hk])]
end K18
namespace K18
open PySem L2 L3
def minI : List Int → Int
  | [] => 0
  | [x] => x
  | x :: y :: r => min x (minI (y :: r))
theorem minI_in : ∀ (l : List Int), l ≠ [] → minI l ∈ l ∧ ∀ x ∈ l, minI l ≤ x
  | [], h => absurd rfl h
  | [x], _ => ⟨by simp [minI], fun y hy => by simp at hy; subst hy; simp [minI]⟩
  | x :: y :: r, _ => by
    obtain ⟨h1, h2⟩ := minI_in (y :: r) (List.cons_ne_nil _ _)
    rw [minI]
    constructor
    · rcases Int.le_total x (minI (y :: r)) with h | h
      · rw [Int.min_eq_left h]; exact .head _
      · rw [Int.min_eq_right h]; exact .tail _ h1
    · intro z hz
      rcases List.mem_cons.mp hz with rfl | hz
      · exact Int.min_le_left _ _
      · exact Int.le_trans (Int.min_le_right _ _) (h2 z hz)
theorem minI_is {l : List Int} {m : Int} (h1 : m ∈ l) (h2 : ∀ x ∈ l, m ≤ x) : m = minI l := by
  obtain ⟨a, b⟩ := minI_in l (List.ne_nil_of_mem h1)
  exact Int.le_antisymm (h2 _ a) (b _ h1)
def sdf (R : Nat) (b : Int) (c : Nat → Int) : Nat → Int
  | 0 => b + c (R - 1)
  | j + 1 => c j
def sums (f g : Nat → Int) (j : Nat) : List Int := (List.range (j + 1)).map fun i => f i + g (j - i)
def cT (R : Nat) (wt : Int → Int) : Tr → Nat → Int
  | .nil, _ => 0
  | .node l k r, j => minI (sums (sdf R (sw wt l) (cT R wt l)) (sdf R (sw wt r) (cT R wt r)) j)
def sd (R : Nat) (wt : Int → Int) (t : Tr) : Nat → Int := sdf R (sw wt t) (cT R wt t)
theorem sd_nil (R : Nat) (wt : Int → Int) : ∀ j, sd R wt .nil j = 0
  | 0 => rfl
  | _ + 1 => rfl
theorem cT_node (R : Nat) (wt : Int → Int) (l : Tr) (k : Int) (r : Tr) (j : Nat) : cT R wt (.node l k r) j = minI (sums (sd R wt l) (sd R wt r) j) := rfl
theorem sums_mem {f g : Nat → Int} {j : Nat} {x : Int} : x ∈ sums f g j ↔ ∃ i, i ≤ j ∧ f i + g (j - i) = x := by
  unfold sums
  rw [List.mem_map]
  constructor
  · rintro ⟨i, hi, e⟩
    rw [List.mem_range] at hi
    exact ⟨i, by omega, e⟩
  · rintro ⟨i, hi, e⟩
    exact ⟨i, by rw [List.mem_range]; omega, e⟩
theorem sums_ne (f g : Nat → Int) (j : Nat) : sums f g j ≠ [] := by
  unfold sums
  rw [List.range_succ]
  simp
theorem cT_le (R : Nat) (wt : Int → Int) {l : Tr} {k : Int} {r : Tr} {j i : Nat} (h : i ≤ j) : cT R wt (.node l k r) j ≤ sd R wt l i + sd R wt r (j - i) :=
  (minI_in _ (sums_ne _ _ j)).2 _ (sums_mem.mpr ⟨i, h, rfl⟩)
theorem cT_ex (R : Nat) (wt : Int → Int) (l : Tr) (k : Int) (r : Tr) (j : Nat) : ∃ i, i ≤ j ∧ cT R wt (.node l k r) j = sd R wt l i + sd R wt r (j - i) := by
  obtain ⟨i, h1, h2⟩ := sums_mem.mp (minI_in _ (sums_ne (sd R wt l) (sd R wt r) j)).1
  exact ⟨i, h1, h2.symm⟩
def Nn (wt : Int → Int) (t : Tr) : Prop := ∀ x ∈ t.keys, 0 ≤ wt x
theorem Nn.l {wt : Int → Int} {l r : Tr} {k : Int} (h : Nn wt (.node l k r)) : Nn wt l := fun x hx => h x (by simp [Tr.keys, hx])
theorem Nn.r {wt : Int → Int} {l r : Tr} {k : Int} (h : Nn wt (.node l k r)) : Nn wt r := fun x hx => h x (by simp [Tr.keys, hx])
theorem sw_nn {wt : Int → Int} : ∀ {t : Tr}, Nn wt t → 0 ≤ sw wt t
  | .nil, _ => Int.le_refl _
  | .node l k r, h => by
    rw [sw_node]
    have h1 := sw_nn h.l
    have h2 := sw_nn h.r
    have h3 := h k (by simp [Tr.keys])
    omega
theorem cT_anti (R : Nat) {wt : Int → Int} : ∀ {t : Tr}, Nn wt t → (∀ j, cT R wt t (j + 1) ≤ cT R wt t j) ∧ cT R wt t 0 ≤ sw wt t + cT R wt t (R - 1)
  | .nil, _ => ⟨fun _ => Int.le_refl _, by show (0 : Int) ≤ 0 + 0; omega⟩
  | .node l k r, h => by
    obtain ⟨l1, l2⟩ := cT_anti R h.l
    obtain ⟨r1, r2⟩ := cT_anti R h.r
    have sda : ∀ u : Tr, (∀ j, cT R wt u (j + 1) ≤ cT R wt u j) → cT R wt u 0 ≤ sw wt u + cT R wt u (R - 1) → ∀ i, sd R wt u (i + 1) ≤ sd R wt u i := fun u a b i => by
      cases i with
      | zero => exact b
      | succ i => exact a i
    have mono : ∀ u : Tr, (∀ j, cT R wt u (j + 1) ≤ cT R wt u j) → ∀ i n, cT R wt u (i + n) ≤ cT R wt u i := fun u a i n => by
      induction n with
      | zero => exact Int.le_refl _
      | succ n ih => exact Int.le_trans (a _) ih
    have low : ∀ u : Tr, Nn wt u → (∀ j, cT R wt u (j + 1) ≤ cT R wt u j) → ∀ i, i ≤ R - 1 → cT R wt u (R - 1) ≤ sd R wt u i := fun u hu a i hi => by
      cases i with
      | zero => have := sw_nn hu; show _ ≤ sw wt u + cT R wt u (R - 1); omega
      | succ i =>
        have := mono u a i (R - 1 - i)
        rw [show i + (R - 1 - i) = R - 1 by omega] at this
        exact this
    constructor
    · intro j
      obtain ⟨i, hi, e⟩ := cT_ex R wt l k r j
      have h1 := cT_le R wt (l := l) (k := k) (r := r) (j := j + 1) (i := i) (by omega)
      have h2 := sda r r1 r2 (j - i)
      rw [show j + 1 - i = j - i + 1 by omega] at h1
      omega
    · obtain ⟨i, hi, e⟩ := cT_ex R wt l k r (R - 1)
      have h1 := cT_le R wt (l := l) (k := k) (r := r) (j := 0) (i := 0) (by omega)
      have h2 := low l h.l l1 i hi
      have h3 := low r h.r r1 (R - 1 - i) (by omega)
      have h4 := h k (by simp [Tr.keys])
      rw [e, sw_node]
      have h5 : sd R wt l 0 = sw wt l + cT R wt l (R - 1) := rfl
      have h6 : sd R wt r (0 - 0) = sw wt r + cT R wt r (R - 1) := rfl
      omega
def least (R : Nat) (wt : Int → Int) (t : Tr) : Int := sw wt t + cT R wt t (R - 1)
def turn : Tr → Tr
  | .nil => .nil
  | .node l k r => .node (turn r) (0 - k) (turn l)
theorem sw_mul (a : Int) {wt wt' : Int → Int} : ∀ {t : Tr}, (∀ x ∈ t.keys, wt' x = a * wt x) → sw wt' t = a * sw wt t
  | .nil, _ => by show (0 : Int) = a * 0; omega
  | .node l k r, h => by
    rw [sw_node, sw_node, sw_mul a (t := l) fun x hx => h x (by simp [Tr.keys, hx]), sw_mul a (t := r) fun x hx => h x (by simp [Tr.keys, hx]), h k (by simp [Tr.keys]), Int.mul_add, Int.mul_add]
theorem sw_add {wa wb wt : Int → Int} : ∀ {t : Tr}, (∀ x ∈ t.keys, wt x = wa x + wb x) → sw wt t = sw wa t + sw wb t
  | .nil, _ => rfl
  | .node l k r, h => by
    rw [sw_node, sw_node, sw_node, sw_add (t := l) fun x hx => h x (by simp [Tr.keys, hx]), sw_add (t := r) fun x hx => h x (by simp [Tr.keys, hx]), h k (by simp [Tr.keys])]
    omega
end K18
namespace K18
open PySem L2 L3
def spBurs : Sp := fun vs H Q _ => ∃ (v : V) (t : Tr) (b : Addr) (wt : Int → Int), vs = [v, .ref b] ∧ Rep H v (Tr.d t) ∧ t.ord none none ∧ t.ht < 80 ∧ t.size ≤ 1000 ∧ H b = some (.lst ((t.keys.map wt).map V.int)) ∧ ∀ r H' kvs, H r = none → Same H H' → H' r = some (.dK kvs) → (∀ k ∈ t.keys, valV kvs (Sum.inl k : Key) = some (.int (sw wt (at_ k t)))) → Q (.ref r) H'
section
variable {P : Program} {w : World} {K : PySem.W.Frag} {mg : Str → Option Value} {base : Heap}
theorem ok_burs {f : Addr} (F : Fd K mg "burdens_by_key" s_burdens_by_key f) (T : Tx K mg) (C_keys_of : Cal P w K mg base CX0 80 "keys_of" (spKof 80)) (C_with_kids : Cal P w K mg base CX0 80 "with_kids" (spWk 80)) : Cal P w K mg base CX0 82 "burdens_by_key" spBurs := by
  refine F.cal sc_burdens_by_key (fun _ _ _ _ _ _ us hl => L3.bind2 (fun _ _ => rfl) us hl) (fun vs H Q E h => ?_) (fun cdv A outer s H vs Q E hr h => ?_)
  · obtain ⟨v, t, b, wt, rfl, _⟩ := h; rfl
  · obtain ⟨v, t, b, wt, rfl, hv, ho, ht, hz, eb, q⟩ := h
    have hkl := Tr.keys_length t
    have hwl := Tr.wk_length t
    refine ⟨_, (bcons (sset (i := 2) sc_burdens_by_key.nd rfl (by first | exact Or.inl rfl | exact Or.inr rfl) (qDictZ rfl T.b_dict bt_dict rfl T.b_zip (qcons (qF C_keys_of (hr.mono (by omega)) pass0 rfl (qcons (qv 0) qnil)) (qcons (qv 1) qnil))))
      (bcons (sfor PassesOwn.never rfl (iseq K (qF C_with_kids (hr.mono (by omega)) pass0 rfl (qcons (qv 0) qnil))) (gtup (n := 2) K rfl (gscons (gname (i := 3) sc_burdens_by_key.nd rfl (by first | exact Or.inl rfl | exact Or.inr rfl)) (gscons (gname (i := 4) sc_burdens_by_key.nd rfl (by first | exact Or.inl rfl | exact Or.inr rfl)) gsnil)))
        (bone (sdaug hr (qv 2) (qv 3) (qB (fSum K) rfl T.b_sum bt_sum (qcons (qcomp (sc := defScope s_burdens_by_key) (NX := ["tree", "weights", "told", "key", "kids"]) ["kid", "told"] [none, some 2] rfl (iseq K (qv 4)) (fun _ _ _ => (gname (i := 0) (show (["kid", "told"] : List Str).Nodup by decide +kernel) rfl (by first | exact Or.inl rfl | exact Or.inr rfl))) (fun _ _ _ => csnil) (fun _ _ _ => (qdget hr (qv 1) (qv 0) (fun _ _ => rfl))) rfl rfl (by decide +kernel)) qnil)))))
      (bone (sret (qv 2))))), ?_⟩
    refine ⟨_, rfl, v, t, rfl, hv, ht, hz, fun r1 H1 n1 s1 e1 => ?_⟩
    refine ⟨_, rfl, r1, b, t.keys, _, rfl, e1, s1 _ _ eb, by simp, fun d H2 n2 s2 e2 _ => ?_⟩
    have s02 := s1.trans s2
    refine ⟨_, rfl, v, t, rfl, hv.mono s02, ht, hz, fun r H3 ws s3 e3 g3 => ?_⟩
    have ed3 := s3 _ _ e2
    have hrd : r ≠ d := fun z => by rw [z, ed3] at e3; cases e3
    have gB : Reps (rm d H3) ws (t.wk.map kidD) := Reps.apart ed3 g3 (pures_map pure_kid _)
    have eB : rm d H3 r = some (.lst ws) := by rw [rm_ne hrd]; exact e3
    have hlw := g3.length
    rw [List.length_map, hwl] at hlw
    have nd : H d = none := s1.free n2
    have sHB : Same H (rm d H3) := rm_of (s02.trans s3) nd
    have hml := length_merge (zipK t.keys ((t.keys.map wt).map V.int)) []
    have hzl : (zipK t.keys ((t.keys.map wt).map V.int)).length = t.keys.length := by simp [zipK]
    rw [List.length_nil, Nat.zero_add, hzl] at hml
    refine ⟨r, rfl, .inl ⟨⟨_, SqL.of e3⟩, for_list (xs := ws) (fun i σ H' => ∃ z1 z2 kvs, σ = [some v, some (.ref b), some (.ref d), z1, z2] ∧ Same (rm d H3) H' ∧ H' d = some (.dK kvs) ∧ kvs.length ≤ t.keys.length + i ∧ ∀ k ∈ t.keys, valV kvs (Sum.inl k : Key) = some (.int (if k ∈ (t.wk.take i).map (·.1) then sw wt (at_ k t) else wt k)))
      ⟨none, none, _, rfl, rm_same, ed3, by omega, fun k hk => by rw [merge_val, if_pos hk]; simp⟩ (fun i σ H' _ hh => by obtain ⟨_, _, _, _, s', _⟩ := hh; exact SqL.of (s' _ _ eB)) ?_ ?_⟩⟩
    · rintro i x σ H4 hx ⟨z1, z2, kvs, rfl, s4, ed, hkv, hval⟩
      have hi := (List.getElem?_eq_some_iff.mp hx).1
      obtain ⟨e, he, ge⟩ := reps_map gB hx
      obtain ⟨b', c, rfl, eb', ec⟩ := rep_kid ge
      have hem := List.mem_of_getElem? he
      have hek := (wk_keys t e.1).mp (List.mem_map.mpr ⟨e, hem, rfl⟩)
      have hpre := wk_pre t i e he
      have hkt : ∀ k ∈ e.2, k ∈ t.keys := fun k hk => by
        obtain ⟨p, hp, hpe⟩ := List.mem_map.mp (hpre k hk)
        exact (wk_keys t k).mp (List.mem_map.mpr ⟨p, List.mem_of_mem_take hp, hpe⟩)
      have hnot : e.1 ∉ (t.wk.take i).map (·.1) := fun hm => by
        have hnd : (t.wk.map (·.1)).Nodup := by
          have h1 : t.keys.Nodup := (ord_rise t _ _ ho).imp (fun h => by omega)
          have h2 : (t.wk.map (·.1)).length = t.keys.length := by rw [List.length_map, hwl, hkl]
          rw [Tr.wk_keys 1]; exact Tr.pt_nodup 1 h1
        have hsp : t.wk = t.wk.take i ++ e :: t.wk.drop (i + 1) := by
          obtain ⟨h1, h2⟩ := List.getElem?_eq_some_iff.mp he
          rw [← h2, List.getElem_cons_drop, List.take_append_drop]
        rw [hsp, List.map_append, List.nodup_append] at hnd
        exact hnd.2.2 _ hm _ (by simp) rfl
      refine ⟨b', _, rfl, SqT.of (s4 _ _ eb'), rfl, _, _, rfl, _, _, rfl, rfl, ?_⟩
      have hv0 := hval e.1 hek
      rw [if_neg hnot] at hv0
      refine ⟨_, rfl, _, rfl, d, _, rfl, .inl ⟨kvs, Sum.inl e.1, .inl ed, rfl, hv0.symm⟩, ?_⟩
      have ec4 := s4 _ _ ec
      refine ⟨_, rfl, c, rfl, .inl ⟨⟨_, SqL.of ec4⟩, fun acc ha => ?_⟩⟩
      have hcd : acc ≠ d := fun z => by rw [z, ed] at ha; cases ha
      have hle := Tr.wk_small t e hem
      refine comp_list (xs := e.2.map V.int) (fun j ys σ H' => ∃ z, σ = [z, some (.ref d)] ∧ Same H4 H' ∧ H' acc = some (.lst ys) ∧ ys = ((e.2.take j).map (fun k => sw wt (at_ k t))).map V.int) ⟨none, rfl, same_new ha, upd_same, rfl⟩ (fun j ys σ H' hh => by obtain ⟨_, _, s', _⟩ := hh; exact SqL.of (s' _ _ ec4)) ?_ ?_
      · rintro j ys y σ H5 hy hj ⟨z, rfl, s5, e5, rfl⟩
        rw [List.getElem?_map] at hy
        obtain ⟨k, hk, rfl⟩ := Option.map_eq_some_iff.mp hy
        have hkm := List.mem_of_getElem? hk
        have hvk := hval k (hkt k hkm)
        rw [if_pos (hpre k hkm)] at hvk
        rw [List.length_map] at hj
        refine ⟨_, rfl, _, rfl, d, _, rfl, .inl ⟨kvs, Sum.inl k, .inl (s5 _ _ ed), rfl, hvk.symm⟩, ?_⟩
        refine cpost e5 (sizeBig (by simp; omega)) (by rw [List.length_map]; exact hj) ?_
        exact ⟨_, rfl, same_upd s5 ha, upd_same, by rw [List.take_add_one, hk, List.map_append, List.map_append]; rfl⟩
      · rintro ys σ H5 ⟨z, rfl, s5, e5, rfl⟩
        rw [List.length_map, List.take_length] at e5
        refine ⟨acc, _, rfl, SqL.of e5, ?_⟩
        refine ⟨_, _, rfl, rfl, _, .inl ⟨kvs, Sum.inl e.1, s5 _ _ ed, rfl, sizeBig (by omega), rfl⟩, ?_⟩
        refine ⟨_, _, putK kvs (Sum.inl e.1 : Key) _, rfl, same_upd (s4.trans s5) rm_self, upd_same, ?_, fun k hk => ?_⟩
        · have := length_putK kvs (Sum.inl e.1 : Key) (.int (wt e.1 + (e.2.map (fun k => sw wt (at_ k t))).sum)); omega
        · rw [valV_put, List.take_add_one, he, List.map_append]
          by_cases hke : k = e.1
          · subst hke
            rw [if_pos rfl, if_pos (by simp), bd_step ho hem]
          · rw [if_neg (fun z => hke (Sum.inl.inj z)), hval k hk]
            have : (k ∈ (t.wk.take i).map (·.1) ++ (some e).toList.map (·.1)) ↔ k ∈ (t.wk.take i).map (·.1) := by simp [hke]
            simp only [this]
    · rintro σ H4 ⟨z1, z2, kvs, rfl, s4, ed, hkv, hval⟩
      refine ⟨_, rfl, q d H4 kvs nd (sHB.trans s4) ed fun k hk => ?_⟩
      have := hval k hk
      rw [hlw, ← hwl, List.take_length, if_pos ((wk_keys t k).mpr hk)] at this
      exact this
end
end K18
namespace K18
open PySem L2 L3
def tie (room : List Int) (l : Tr) (k : Int) (r u : Tr) : Bool := u.key?.any fun c => decide (c ∈ room)
def hd (room : List Int) : Tr → List Int
  | .nil => []
  | .node l k r => k :: ((if tie room l k r l then hd room l else []) ++ (if tie room l k r r then hd room r else []))
def er (room : List Int) : Tr → List (Int × List Int)
  | .nil => []
  | .node l k r => (er room l ++ (if tie room l k r l then [] else l.key?.map fun c => (c, hd room l))) ++ (er room r ++ (if tie room l k r r then [] else r.key?.map fun c => (c, hd room r)))
def en (room : List Int) (t : Tr) : List (Int × List Int) := er room t ++ t.key?.map fun c => (c, hd room t)
def TdOk (room : List Int) (td : List Int) : Tr → Prop
  | .nil => True
  | .node l k r => (∀ c ∈ l.key?, (c ∈ td ↔ tie room l k r l = true)) ∧ (∀ c ∈ r.key?, (c ∈ td ↔ tie room l k r r = true)) ∧ TdOk room td l ∧ TdOk room td r
theorem tdOk_self (td : List Int) : ∀ t : Tr, TdOk td td t
  | .nil => trivial
  | .node l k r => by
    have h : ∀ u : Tr, ∀ c ∈ u.key?, (c ∈ td ↔ tie td l k r u = true) := fun u c hc => by
      cases u with
      | nil => simp [Tr.key?] at hc
      | node a b d =>
        have : c = b := by simpa [Tr.key?] using hc
        subst this
        simp [tie, Tr.key?]
    exact ⟨h l, h r, tdOk_self td l, tdOk_self td r⟩
def blw : Tr → List Int
  | .nil => []
  | .node l _ r => l.keys ++ r.keys
theorem key_keys (t : Tr) : ∀ c ∈ t.key?, c ∈ t.keys := by
  cases t with
  | nil => intro c h; simp [Tr.key?] at h
  | node l k r => intro c h; simp [Tr.key?] at h; subst h; simp [Tr.keys]
theorem blw_keys (t : Tr) : ∀ c ∈ blw t, c ∈ t.keys := by
  cases t with
  | nil => intro c h; simp [blw] at h
  | node l k r => intro c h; simp only [blw, List.mem_append] at h; simp only [Tr.keys, List.mem_append, List.mem_singleton]; rcases h with h | h <;> simp [h]
theorem nd_node {l r : Tr} {k : Int} (h : (Tr.node l k r).keys.Nodup) : l.keys.Nodup ∧ r.keys.Nodup ∧ k ∉ l.keys ∧ k ∉ r.keys ∧ ∀ c ∈ l.keys, c ∉ r.keys := by
  rw [Tr.keys, List.append_assoc, List.nodup_append] at h
  obtain ⟨h1, h2, h3⟩ := h
  rw [List.singleton_append, List.nodup_cons] at h2
  exact ⟨h1, h2.2, fun hk => h3 k hk k (by simp) rfl, h2.1, fun c hc hr => h3 c hc c (by simp [hr]) rfl⟩
theorem key_blw {t : Tr} (h : t.keys.Nodup) : ∀ c ∈ t.key?, c ∉ blw t := by
  cases t with
  | nil => intro c hc; simp [Tr.key?] at hc
  | node l k r =>
    intro c hc
    simp [Tr.key?] at hc
    subst hc
    obtain ⟨_, _, h3, h4, _⟩ := nd_node h
    simp [blw, h3, h4]
abbrev PTab := List (Int × List Int)
def lkP (D : PTab) (c : Int) : List Int := ((D.find? fun e => decide (e.1 = c)).map (·.2)).getD []
def stK (td : List Int) (x : PTab × List Int) (c : Int) : PTab × List Int := if c ∈ td then (x.1.filter (fun e => decide (e.1 ≠ c)), x.2 ++ lkP x.1 c) else x
def stp (td : List Int) (D : PTab) (e : Int × List Int) : PTab := (e.2.foldl (stK td) (D, [e.1])).1 ++ [(e.1, (e.2.foldl (stK td) (D, [e.1])).2)]
theorem lkP_mid : ∀ {X Y : PTab} {c : Int} {p : List Int}, (∀ e ∈ X, e.1 ≠ c) → lkP (X ++ (c, p) :: Y) c = p
  | [], Y, c, p, _ => by simp [lkP]
  | e :: X, Y, c, p, h => by
    have := lkP_mid (X := X) (Y := Y) (c := c) (p := p) fun e he => h e (.tail _ he)
    unfold lkP at this ⊢
    rw [List.cons_append, List.find?_cons]
    have hne : ¬ e.1 = c := h e (.head _)
    simp only [hne, decide_false]
    exact this
theorem side_key {room : List Int} {u : Tr} {b : Bool} {e : Int × List Int} (ih : ∀ e ∈ er room u, e.1 ∈ blw u) (h : e ∈ er room u ++ (if b = true then [] else u.key?.map fun c => (c, hd room u))) : e.1 ∈ u.keys := by
  rcases List.mem_append.mp h with h | h
  · exact blw_keys u _ (ih e h)
  · split at h
    · cases h
    · obtain ⟨c, hc, rfl⟩ := List.mem_map.mp h
      exact key_keys u c hc
theorem er_keys (room : List Int) : ∀ (t : Tr) (e : Int × List Int), e ∈ er room t → e.1 ∈ blw t
  | .nil, e, h => by simp [er] at h
  | .node l k r, e, h => by
    rw [er] at h
    simp only [blw, List.mem_append]
    rcases List.mem_append.mp h with h | h
    · exact .inl (side_key (er_keys room l) h)
    · exact .inr (side_key (er_keys room r) h)
theorem en_keys {room : List Int} {t : Tr} {e : Int × List Int} (h : e ∈ en room t) : e.1 ∈ t.keys := side_key (b := false) (er_keys room t) (by simpa [en] using h)
theorem stK_side {room : List Int} {td : List Int} {X Y : PTab} {u : Tr} {b : Bool} {p : List Int} (hX : ∀ e ∈ X, e.1 ∉ u.key?) (hY : ∀ e ∈ Y, e.1 ∉ u.key?) (hn : u.keys.Nodup) (tu : ∀ c ∈ u.key?, (c ∈ td ↔ b = true)) :
    u.key?.foldl (stK td) (X ++ en room u ++ Y, p) = (X ++ (er room u ++ (if b = true then [] else u.key?.map fun c => (c, hd room u))) ++ Y, p ++ (if b = true then hd room u else [])) := by
  cases u with
  | nil => cases b <;> simp [Tr.key?, en, hd]
  | node l c r =>
    have hc : c ∈ (Tr.node l c r).key? := by simp [Tr.key?]
    have hE : ∀ e ∈ er room (.node l c r), e.1 ≠ c := fun e he z => key_blw hn c hc (by rw [← z]; exact er_keys room _ e he)
    have hX' : ∀ e ∈ X, e.1 ≠ c := fun e he z => hX e he (by simp [Tr.key?, z])
    have hY' : ∀ e ∈ Y, e.1 ≠ c := fun e he z => hY e he (by simp [Tr.key?, z])
    have e1 : (Tr.node l c r).key? = [c] := rfl
    have e2 : X ++ en room (.node l c r) ++ Y = (X ++ er room (.node l c r)) ++ (c, hd room (.node l c r)) :: Y := by simp [en, e1]
    rw [e1, List.foldl_cons, List.foldl_nil, e2]
    unfold stK
    cases b with
    | true =>
      rw [if_pos ((tu c hc).mpr rfl)]
      have f1 : (X ++ er room (.node l c r)).filter (fun e => decide (e.1 ≠ c)) = X ++ er room (.node l c r) := List.filter_eq_self.mpr fun e he => by
        rcases List.mem_append.mp he with he | he
        · exact decide_eq_true (hX' e he)
        · exact decide_eq_true (hE e he)
      have f2 : Y.filter (fun e => decide (e.1 ≠ c)) = Y := List.filter_eq_self.mpr fun e he => decide_eq_true (hY' e he)
      rw [List.filter_append, f1, List.filter_cons, if_neg (by simp), f2, lkP_mid (fun e he => ?_)]
      · simp
      · rcases List.mem_append.mp he with he | he
        · exact hX' e he
        · exact hE e he
    | false =>
      rw [if_neg (fun h => nomatch (tu c hc).mp h)]
      simp [e1]
theorem fold_en (room : List Int) (td : List Int) : ∀ (t : Tr) (D : PTab), t.keys.Nodup → TdOk room td t → (∀ e ∈ D, e.1 ∉ t.keys) → t.wk.foldl (stp td) D = D ++ en room t
  | .nil, D, _, _, _ => by simp [Tr.wk, en, er, Tr.key?]
  | .node l k r, D, hn, ht, hD => by
    obtain ⟨n1, n2, n3, n4, n5⟩ := nd_node hn
    obtain ⟨t1, t2, t3, t4⟩ := ht
    have Dl : ∀ e ∈ D, e.1 ∉ l.keys := fun e he h => hD e he (by simp [Tr.keys, h])
    have Dr : ∀ e ∈ D, e.1 ∉ r.keys := fun e he h => hD e he (by simp [Tr.keys, h])
    have hr2 : ∀ e ∈ D ++ en room l, e.1 ∉ r.keys := fun e he => by
      rcases List.mem_append.mp he with he | he
      · exact Dr e he
      · exact n5 _ (en_keys he)
    rw [Tr.wk, List.foldl_append, List.foldl_append, fold_en room td l D n1 t3 Dl, fold_en room td r _ n2 t4 hr2, List.foldl_cons, List.foldl_nil]
    unfold stp
    rw [List.foldl_append]
    rw [stK_side (room := room) (b := tie room l k r l) (X := D) (Y := en room r) (u := l) (p := [k]) (fun e he h => Dl e he (key_keys l _ h)) (fun e he h => n5 _ (key_keys l _ h) (en_keys he)) n1 t1]
    have := stK_side (room := room) (td := td) (b := tie room l k r r) (X := D ++ (er room l ++ (if tie room l k r l = true then [] else l.key?.map fun c => (c, hd room l)))) (Y := []) (u := r) (p := [k] ++ (if tie room l k r l = true then hd room l else [])) (fun e he h => ?_) (fun e he => by cases he) n2 t2
    · rw [List.append_nil, List.append_nil] at this
      rw [this]
      simp [en, er, hd, Tr.key?, List.append_assoc]
    · rcases List.mem_append.mp he with he | he
      · exact Dr e he (key_keys r _ h)
      · exact n5 _ (side_key (er_keys room l) he) (key_keys r _ h)
def OkF (td : List Int) : List (Int × List Int) → PTab → Prop
  | [], _ => True
  | e :: w, D => ((∀ c ∈ e.2, c ∈ D.map (·.1)) ∧ e.2.Nodup ∧ e.1 ∉ D.map (·.1) ∧ (D.map (·.1)).Nodup) ∧ OkF td w (stp td D e)
theorem okF_append (td : List Int) : ∀ (a b : List (Int × List Int)) (D : PTab), OkF td a D → OkF td b (a.foldl (stp td) D) → OkF td (a ++ b) D
  | [], b, D, _, h => h
  | e :: a, b, D, h, h' => ⟨h.1, okF_append td a b _ h.2 h'⟩
theorem okF_at (td : List Int) : ∀ (w : List (Int × List Int)) (D : PTab) (i : Nat) (e : Int × List Int), OkF td w D → w[i]? = some e →
    (∀ c ∈ e.2, c ∈ ((w.take i).foldl (stp td) D).map (·.1)) ∧ e.2.Nodup ∧ e.1 ∉ ((w.take i).foldl (stp td) D).map (·.1) ∧ (((w.take i).foldl (stp td) D).map (·.1)).Nodup
  | [], _, i, e, _, h => by simp at h
  | x :: w, D, 0, e, h, h' => by simp at h'; subst h'; exact h.1
  | x :: w, D, i + 1, e, h, h' => okF_at td w _ i e h.2 (by simpa using h')
theorem en_nodup {room : List Int} : ∀ {t : Tr}, t.keys.Nodup → ((en room t).map (·.1)).Nodup
  | .nil, _ => by simp [en, er, Tr.key?]
  | .node l k r, hn => by
    obtain ⟨n1, n2, n3, n4, n5⟩ := nd_node hn
    have side : ∀ (u : Tr) (b : Bool), ((en room u).map (·.1)).Nodup → ((er room u ++ (if b = true then [] else u.key?.map fun c => (c, hd room u))).map (·.1)).Nodup := fun u b h => by
      cases b with
      | false => exact h
      | true => unfold en at h; rw [List.map_append] at h; simpa using (List.nodup_append.mp h).1
    have h1 := side l (tie room l k r l) (en_nodup n1)
    have h2 := side r (tie room l k r r) (en_nodup n2)
    unfold en
    rw [er, List.map_append, List.map_append, List.nodup_append, List.nodup_append]
    refine ⟨⟨h1, h2, fun a ha b hb z => ?_⟩, by simp [Tr.key?], fun a ha b hb z => ?_⟩
    · obtain ⟨e, he, rfl⟩ := List.mem_map.mp ha
      obtain ⟨e', he', rfl⟩ := List.mem_map.mp hb
      exact n5 _ (side_key (er_keys room l) he) (by rw [z]; exact side_key (er_keys room r) he')
    · have hb' : b = k := by simpa [Tr.key?] using hb
      subst hb'
      subst z
      rcases List.mem_append.mp ha with ha | ha
      · obtain ⟨e, he, h⟩ := List.mem_map.mp ha
        exact n3 (by rw [← h]; exact side_key (er_keys room l) he)
      · obtain ⟨e, he, h⟩ := List.mem_map.mp ha
        exact n4 (by rw [← h]; exact side_key (er_keys room r) he)
theorem okF_tree (room : List Int) (td : List Int) : ∀ (t : Tr) (D : PTab), t.keys.Nodup → TdOk room td t → (∀ e ∈ D, e.1 ∉ t.keys) → (D.map (·.1)).Nodup → OkF td t.wk D
  | .nil, D, _, _, _, _ => trivial
  | .node l k r, D, hn, ht, hD, hDn => by
    obtain ⟨n1, n2, n3, n4, n5⟩ := nd_node hn
    have Dl : ∀ e ∈ D, e.1 ∉ l.keys := fun e he h => hD e he (by simp [Tr.keys, h])
    have Dr : ∀ e ∈ D, e.1 ∉ r.keys := fun e he h => hD e he (by simp [Tr.keys, h])
    have hr2 : ∀ e ∈ D ++ en room l, e.1 ∉ r.keys := fun e he => by
      rcases List.mem_append.mp he with he | he
      · exact Dr e he
      · exact n5 _ (en_keys he)
    have app : ∀ (E : PTab) (u : Tr), (E.map (·.1)).Nodup → u.keys.Nodup → (∀ e ∈ E, e.1 ∉ u.keys) → ((E ++ en room u).map (·.1)).Nodup := fun E u h1 h2 h3 => by
      rw [List.map_append, List.nodup_append]
      refine ⟨h1, en_nodup h2, fun a ha b hb z => ?_⟩
      obtain ⟨e, he, rfl⟩ := List.mem_map.mp ha
      obtain ⟨e', he', rfl⟩ := List.mem_map.mp hb
      exact h3 e he (by rw [z]; exact en_keys he')
    have nl := app D l hDn n1 Dl
    have nr := app _ r nl n2 hr2
    rw [Tr.wk]
    refine okF_append td _ _ D (okF_append td _ _ D (okF_tree room td l D n1 ht.2.2.1 Dl hDn) ?_) ?_
    · rw [fold_en room td l D n1 ht.2.2.1 Dl]
      exact okF_tree room td r _ n2 ht.2.2.2 hr2 nl
    · rw [List.foldl_append, fold_en room td l D n1 ht.2.2.1 Dl, fold_en room td r _ n2 ht.2.2.2 hr2]
      refine ⟨⟨fun c hc => ?_, ?_, fun h => ?_, nr⟩, trivial⟩
      · rcases List.mem_append.mp hc with hc | hc
        · exact List.mem_map.mpr ⟨(c, hd room l), by simp [en, hc], rfl⟩
        · exact List.mem_map.mpr ⟨(c, hd room r), by simp [en, hc], rfl⟩
      · rw [List.nodup_append]
        exact ⟨by cases l <;> simp [Tr.key?], by cases r <;> simp [Tr.key?], fun a ha b hb z => n5 a (key_keys l a ha) (by rw [z]; exact key_keys r b hb)⟩
      · obtain ⟨e, he, rfl⟩ := List.mem_map.mp h
        rcases List.mem_append.mp he with he | he
        · rcases List.mem_append.mp he with he | he
          · exact hD e he (by simp [Tr.keys])
          · exact n3 (en_keys he)
        · exact n4 (en_keys he)
end K18
namespace K18
open PySem L2 L3
def so (p : List Int) : List Int := p.mergeSort fun a b => decide (a ≤ b)
theorem so_perm (p : List Int) : (so p).Perm p := List.mergeSort_perm _ _
theorem so_sorted (p : List Int) : (so p).Pairwise (· ≤ ·) := by
  have := List.pairwise_mergeSort (le := fun a b : Int => decide (a ≤ b)) (fun a b c h1 h2 => by simp at *; omega) (fun a b => by simp; omega) p
  exact this.imp fun h => of_decide_eq_true h
theorem so_one {q p : List Int} (h : q.Perm p) (s : q.Pairwise (· ≤ ·)) : q = so p :=
  List.Perm.eq_of_pairwise (fun a b _ _ h1 h2 => Int.le_antisymm h1 h2) s (so_sorted p) (h.trans (so_perm p).symm)
def LexS (L : List (List Int)) : Prop := L.Pairwise fun a b => HT.lexLt b a = false
theorem flat_side (room : List Int) (u : Tr) (b : Bool) : ((if b = true then hd room u else []) ++ ((er room u ++ (if b = true then [] else u.key?.map fun c => (c, hd room u))).map (·.2)).flatten).Perm (hd room u ++ ((er room u).map (·.2)).flatten) := by
  cases b with
  | true => simp
  | false =>
    cases u with
    | nil => simp [hd, er, Tr.key?]
    | node a c d => simpa [Tr.key?] using List.perm_append_comm
theorem flat_keys (room : List Int) : ∀ t : Tr, (hd room t ++ ((er room t).map (·.2)).flatten).Perm t.keys
  | .nil => .refl _
  | .node l k r => by
    have h1 := (flat_side room l (tie room l k r l)).trans (flat_keys room l)
    have h2 := (flat_side room r (tie room l k r r)).trans (flat_keys room r)
    rw [hd, er, List.map_append, List.flatten_append, Tr.keys]
    have e : (k :: ((if tie room l k r l = true then hd room l else []) ++ (if tie room l k r r = true then hd room r else [])) ++
        (((er room l ++ (if tie room l k r l = true then [] else l.key?.map fun c => (c, hd room l))).map (·.2)).flatten ++ ((er room r ++ (if tie room l k r r = true then [] else r.key?.map fun c => (c, hd room r))).map (·.2)).flatten)).Perm
        (k :: (((if tie room l k r l = true then hd room l else []) ++ ((er room l ++ (if tie room l k r l = true then [] else l.key?.map fun c => (c, hd room l))).map (·.2)).flatten) ++ ((if tie room l k r r = true then hd room r else []) ++ ((er room r ++ (if tie room l k r r = true then [] else r.key?.map fun c => (c, hd room r))).map (·.2)).flatten))) := by
      rw [List.cons_append]
      refine List.Perm.cons _ ?_
      generalize (if tie room l k r l = true then hd room l else []) = a
      generalize (if tie room l k r r = true then hd room r else []) = b
      generalize ((er room l ++ (if tie room l k r l = true then [] else l.key?.map fun c => (c, hd room l))).map (·.2)).flatten = c
      generalize ((er room r ++ (if tie room l k r r = true then [] else r.key?.map fun c => (c, hd room r))).map (·.2)).flatten = d
      rw [List.append_assoc, List.append_assoc]
      refine List.Perm.append_left _ ?_
      rw [← List.append_assoc, ← List.append_assoc]
      exact List.Perm.append_right _ List.perm_append_comm
    refine e.trans ((List.Perm.cons _ (h1.append h2)).trans ?_)
    rw [List.append_assoc, List.singleton_append]
    exact List.perm_middle.symm
theorem en_flat (room : List Int) (t : Tr) : (((en room t).map (·.2)).flatten).Perm t.keys := by
  refine List.Perm.trans ?_ (flat_keys room t)
  unfold en
  rw [List.map_append, List.flatten_append]
  cases t with
  | nil => exact .refl _
  | node l k r => simpa [Tr.key?] using List.perm_append_comm
theorem hd_top {room : List Int} {l r : Tr} {k : Int} : k ∈ hd room (.node l k r) := by rw [hd]; exact .head _
theorem er_top (room : List Int) : ∀ (t : Tr) (e : Int × List Int), e ∈ er room t → e.1 ∈ e.2
  | .nil, e, h => by simp [er] at h
  | .node l k r, e, h => by
    have side : ∀ (u : Tr) (b : Bool), (∀ e ∈ er room u, e.1 ∈ e.2) → e ∈ er room u ++ (if b = true then [] else u.key?.map fun c => (c, hd room u)) → e.1 ∈ e.2 := fun u b ih h => by
      rcases List.mem_append.mp h with h | h
      · exact ih e h
      · cases b with
        | true => cases h
        | false =>
          cases u with
          | nil => simp [Tr.key?] at h
          | node a c d =>
            simp [Tr.key?] at h
            subst h
            exact hd_top
    rw [er] at h
    rcases List.mem_append.mp h with h | h
    · exact side l _ (er_top room l) h
    · exact side r _ (er_top room r) h
theorem en_top {room : List Int} {t : Tr} {e : Int × List Int} (h : e ∈ en room t) : e.1 ∈ e.2 := by
  rcases List.mem_append.mp h with h | h
  · exact er_top room t e h
  · cases t with
    | nil => simp [Tr.key?] at h
    | node l k r => simp [Tr.key?] at h; subst h; exact hd_top
end K18
namespace K18
open PySem L2 L3
def top1 : Tr → Int
  | .nil => 0
  | .node _ k _ => k
def idf (room : List Int) (a : Int) : Tr → Int → Int
  | .nil, _ => a
  | .node l k r, x => if x = k then a else if x ∈ l.keys then idf room (if tie room l k r l then a else top1 l) l x else idf room (if tie room l k r r then a else top1 r) r x
theorem idf_top (room : List Int) (a : Int) {t : Tr} (h : t ≠ .nil) : idf room a t (top1 t) = a := by
  cases t with
  | nil => exact absurd rfl h
  | node l k r => simp [idf, top1]
theorem ne_of_mem {t : Tr} {x : Int} (h : x ∈ t.keys) : t ≠ .nil := fun z => by rw [z] at h; simp [Tr.keys] at h
theorem key_top {t : Tr} (h : t ≠ .nil) : t.key? = [top1 t] := by
  cases t with
  | nil => exact absurd rfl h
  | node l k r => rfl
theorem idf_page (room : List Int) : ∀ (t : Tr) (a x : Int), t.keys.Nodup → x ∈ t.keys → ∃ p, (idf room a t x, p) ∈ er room t ++ [(a, hd room t)] ∧ x ∈ p
  | .nil, a, x, _, h => by simp [Tr.keys] at h
  | .node l k r, a, x, hn, h => by
    obtain ⟨n1, n2, n3, n4, n5⟩ := nd_node hn
    rw [idf]
    by_cases hx : x = k
    · rw [if_pos hx]
      exact ⟨_, List.mem_append_right _ (.head _), by rw [hx]; exact hd_top⟩
    · rw [if_neg hx]
      have side : ∀ u, (u = l ∨ u = r) → x ∈ u.keys → (∃ p, (idf room (if tie room l k r u then a else top1 u) u x, p) ∈ er room u ++ [(if tie room l k r u then a else top1 u, hd room u)] ∧ x ∈ p) →
          ∃ p, (idf room (if tie room l k r u then a else top1 u) u x, p) ∈ er room (.node l k r) ++ [(a, hd room (.node l k r))] ∧ x ∈ p := fun u hu hxu ⟨p, hp, hxp⟩ => by
        have sub : ∀ e, e ∈ er room u ++ (if tie room l k r u = true then [] else u.key?.map fun c => (c, hd room u)) → e ∈ er room (.node l k r) := fun e he => by
          rw [er]
          rcases hu with rfl | rfl
          · exact List.mem_append_left _ he
          · exact List.mem_append_right _ he
        rcases List.mem_append.mp hp with hp | hp
        · exact ⟨p, List.mem_append_left _ (sub _ (List.mem_append_left _ hp)), hxp⟩
        · rw [List.mem_singleton] at hp
          by_cases ht : tie room l k r u = true
          · rw [if_pos ht] at hp ⊢
            have e1 := (Prod.mk.inj hp).1
            have e2 := (Prod.mk.inj hp).2
            refine ⟨hd room (.node l k r), List.mem_append_right _ (by rw [e1]; exact .head _), ?_⟩
            rw [hd]
            rw [e2] at hxp
            rcases hu with rfl | rfl
            · rw [if_pos ht]; simp [hxp]
            · rw [if_pos ht]; simp [hxp]
          · rw [if_neg ht] at hp ⊢
            refine ⟨p, List.mem_append_left _ (sub _ (List.mem_append_right _ ?_)), hxp⟩
            rw [if_neg ht, hp, key_top (ne_of_mem hxu)]
            exact .head _
      by_cases hl : x ∈ l.keys
      · rw [if_pos hl]
        exact side l (.inl rfl) hl (idf_page room l _ x n1 hl)
      · rw [if_neg hl]
        have hxr : x ∈ r.keys := by
          simp only [Tr.keys, List.mem_append, List.mem_singleton] at h
          rcases h with (h | h) | h
          · exact absurd h hl
          · exact absurd h hx
          · exact h
        exact side r (.inr rfl) hxr (idf_page room r _ x n2 hxr)
def pid (room : List Int) (t : Tr) (x : Int) : Int := idf room (top1 t) t x
theorem pid_page (room : List Int) {t : Tr} {x : Int} (hn : t.keys.Nodup) (h : x ∈ t.keys) : ∃ p, (pid room t x, p) ∈ en room t ∧ x ∈ p := by
  obtain ⟨p, h1, h2⟩ := idf_page room t (top1 t) x hn h
  exact ⟨p, by unfold en; rw [key_top (ne_of_mem h)]; exact h1, h2⟩
theorem lkP_of' : ∀ {D : PTab} {c : Int} {p : List Int}, (D.map (·.1)).Nodup → (c, p) ∈ D → lkP D c = p
  | e :: D, c, p, hn, h => by
    obtain ⟨h1, h2⟩ := List.nodup_cons.mp (show (e.1 :: D.map (·.1)).Nodup from hn)
    unfold lkP
    rw [List.find?_cons]
    rcases List.mem_cons.mp h with e1 | h'
    · subst e1; simp
    · have hne : ¬ e.1 = c := fun z => h1 (by rw [z]; exact List.mem_map.mpr ⟨_, h', rfl⟩)
      simp only [hne, decide_false]
      exact lkP_of' h2 h'
theorem pair_one {α : Type} {R : α → α → Prop} {l : List α} (h : l.Pairwise R) {a b : α} (ha : a ∈ l) (hb : b ∈ l) (hne : a ≠ b) : R a b ∨ R b a := by
  obtain ⟨i, hi, rfl⟩ := List.getElem_of_mem ha
  obtain ⟨j, hj, rfl⟩ := List.getElem_of_mem hb
  rw [List.pairwise_iff_getElem] at h
  rcases Nat.lt_trichotomy i j with c | c | c
  · exact .inl (h i j hi hj c)
  · subst c; exact absurd rfl hne
  · exact .inr (h j i hj hi c)
theorem en_one {room : List Int} {t : Tr} (hn : t.keys.Nodup) {e e' : Int × List Int} (h : e ∈ en room t) (h' : e' ∈ en room t) {x : Int} (hx : x ∈ e.2) (hx' : x ∈ e'.2) : e = e' := by
  by_cases c : e = e'
  · exact c
  · have := (en_flat room t).nodup_iff.mpr hn
    rw [List.Nodup, List.pairwise_flatten] at this
    rcases pair_one (List.pairwise_map.mp this.2) h h' c with z | z
    · exact absurd rfl (z x hx x hx')
    · exact absurd rfl (z x hx' x hx)
structure Laid (room : List Int) (t : Tr) (L : List (List Int)) : Prop where
  perm : L.Perm (((en room t).map (·.2)).map so)
  nd : t.keys.Nodup
theorem flat_so : ∀ ps : List (List Int), (ps.map so).flatten.Perm ps.flatten
  | [] => .refl _
  | p :: ps => by rw [List.map_cons, List.flatten_cons, List.flatten_cons]; exact (so_perm p).append (flat_so ps)
theorem Laid.flat {room : List Int} {t : Tr} {L : List (List Int)} (h : Laid room t L) : L.flatten.Perm t.keys :=
  (h.perm.flatten.trans (flat_so _)).trans (en_flat room t)
theorem Laid.len {room : List Int} {t : Tr} {L : List (List Int)} (h : Laid room t L) : L.length = (en room t).length := by
  have := h.perm.length_eq
  rwa [List.length_map, List.length_map] at this
theorem Laid.at_ {room : List Int} {t : Tr} {L : List (List Int)} (h : Laid room t L) {p : List Int} {c : Int} (hp : (c, p) ∈ en room t) : ∃ i, i < L.length ∧ L.getD i [] = so p := by
  have : so p ∈ L := h.perm.mem_iff.mpr (List.mem_map.mpr ⟨p, List.mem_map.mpr ⟨_, hp, rfl⟩, rfl⟩)
  obtain ⟨i, hi, e⟩ := List.getElem_of_mem this
  exact ⟨i, hi, by rw [List.getD_eq_getElem?_getD, List.getElem?_eq_getElem hi]; exact e⟩
theorem Laid.home {room : List Int} {t : Tr} {L : List (List Int)} (h : Laid room t L) {x y : Int} (hx : x ∈ t.keys) (hy : y ∈ t.keys) : numP L x = numP L y ↔ pid room t x = pid room t y := by
  have hf : L.flatten.Nodup := h.flat.nodup_iff.mpr h.nd
  obtain ⟨p, h1, h2⟩ := pid_page room h.nd hx
  obtain ⟨q, h3, h4⟩ := pid_page room h.nd hy
  obtain ⟨i, i1, i2⟩ := h.at_ h1
  obtain ⟨j, j1, j2⟩ := h.at_ h3
  have ex : numP L x = i := numP_is hf (by rw [i2]; exact (so_perm p).mem_iff.mpr h2)
  have ey : numP L y = j := numP_is hf (by rw [j2]; exact (so_perm q).mem_iff.mpr h4)
  constructor
  · intro e
    have hij : i = j := by omega
    subst hij
    have hxq : x ∈ q := (so_perm q).mem_iff.mp (by rw [← j2, i2]; exact (so_perm p).mem_iff.mpr h2)
    exact (Prod.mk.inj (en_one h.nd h1 h3 h2 hxq)).1
  · intro e
    have hpq : p = q := by
      have hyp : y ∈ q := h4
      rw [← e] at h3
      have hne := en_nodup (room := room) h.nd
      have := lkP_of' hne h1
      have := lkP_of' hne h3
      simp_all
    subst hpq
    have := numP_is hf (y := y) (i := i) (by rw [i2]; exact (so_perm p).mem_iff.mpr h4)
    omega
end K18
namespace K18
open PySem L2 L3
def ch (R : Nat) (wt : Int → Int) (l r : Tr) (j : Nat) : Nat := (sums (sd R wt l) (sd R wt r) j).idxOf (minI (sums (sd R wt l) (sd R wt r) j))
theorem sums_len (f g : Nat → Int) (j : Nat) : (sums f g j).length = j + 1 := by unfold sums; rw [List.length_map, List.length_range]
theorem ch_le (R : Nat) (wt : Int → Int) (l r : Tr) (j : Nat) : ch R wt l r j ≤ j := by
  have h1 := List.idxOf_lt_length_iff.mpr (minI_in _ (sums_ne (sd R wt l) (sd R wt r) j)).1
  rw [sums_len] at h1
  unfold ch
  omega
theorem sums_get (f g : Nat → Int) (j i : Nat) (h : i < (sums f g j).length) : (sums f g j)[i] = f i + g (j - i) := by simp [sums]
theorem ch_is (R : Nat) (wt : Int → Int) (l : Tr) (k : Int) (r : Tr) (j : Nat) : sd R wt l (ch R wt l r j) + sd R wt r (j - ch R wt l r j) = cT R wt (.node l k r) j := by
  have h1 := List.idxOf_lt_length_iff.mpr (minI_in _ (sums_ne (sd R wt l) (sd R wt r) j)).1
  have h2 := List.getElem_idxOf h1
  rw [sums_get] at h2
  exact h2
def nx (R s : Nat) : Nat := (if s = 0 then R else s) - 1
def tb (R : Nat) (wt : Int → Int) : Tr → Nat → List Int
  | .nil, _ => []
  | .node l k r, j => ((if 0 < ch R wt l r j then l.key? else []) ++ tb R wt l (nx R (ch R wt l r j))) ++ ((if 0 < j - ch R wt l r j then r.key? else []) ++ tb R wt r (nx R (j - ch R wt l r j)))
def gT (R : Nat) (wt v : Int → Int) : Tr → Nat → Int
  | .nil, _ => 0
  | .node l k r, j => sdf R (sw v l) (gT R wt v l) (ch R wt l r j) + sdf R (sw v r) (gT R wt v r) (j - ch R wt l r j)
theorem gT_self (R : Nat) (wt : Int → Int) : ∀ (t : Tr) (j : Nat), gT R wt wt t j = cT R wt t j
  | .nil, _ => rfl
  | .node l k r, j => by
    have e : ∀ u : Tr, (∀ j, gT R wt wt u j = cT R wt u j) → ∀ i, sdf R (sw wt u) (gT R wt wt u) i = sd R wt u i := fun u h i => by
      rw [show gT R wt wt u = cT R wt u from funext h]; rfl
    rw [gT, e l (gT_self R wt l), e r (gT_self R wt r), ch_is]
theorem gT_lin (R : Nat) (wt : Int → Int) (a : Int) {v va vb : Int → Int} : ∀ {t : Tr}, (∀ x ∈ t.keys, v x = va x + a * vb x) → ∀ j, gT R wt v t j = gT R wt va t j + a * gT R wt vb t j
  | .nil, _, _ => by show (0 : Int) = 0 + a * 0; omega
  | .node l k r, h, j => by
    have hl : ∀ x ∈ l.keys, v x = va x + a * vb x := fun x hx => h x (by simp [Tr.keys, hx])
    have hr : ∀ x ∈ r.keys, v x = va x + a * vb x := fun x hx => h x (by simp [Tr.keys, hx])
    have swl : ∀ {u : Tr}, (∀ x ∈ u.keys, v x = va x + a * vb x) → sw v u = sw va u + a * sw vb u := fun {u} hu => by
      have h1 := sw_add (wa := va) (wb := fun x => a * vb x) hu
      rw [h1, sw_mul a (wt := vb) (wt' := fun x => a * vb x) fun x _ => rfl]
    have side : ∀ u : Tr, (∀ x ∈ u.keys, v x = va x + a * vb x) → (∀ j, gT R wt v u j = gT R wt va u j + a * gT R wt vb u j) → ∀ i, sdf R (sw v u) (gT R wt v u) i = sdf R (sw va u) (gT R wt va u) i + a * sdf R (sw vb u) (gT R wt vb u) i := fun u hu hi i => by
      cases i with
      | zero =>
        show sw v u + gT R wt v u (R - 1) = sw va u + gT R wt va u (R - 1) + a * (sw vb u + gT R wt vb u (R - 1))
        rw [swl hu, hi, Int.mul_add]; omega
      | succ i => exact hi i
    rw [gT, gT, gT, side l hl (gT_lin R wt a hl), side r hr (gT_lin R wt a hr), Int.mul_add]
    omega
theorem tb_blw (R : Nat) (wt : Int → Int) : ∀ (t : Tr) (j : Nat) (c : Int), c ∈ tb R wt t j → c ∈ blw t
  | .nil, j, c, h => by simp [tb] at h
  | .node l k r, j, c, h => by
    simp only [tb, List.mem_append] at h
    simp only [blw, List.mem_append]
    rcases h with (h | h) | h | h
    · split at h
      · exact .inl (key_keys l c h)
      · cases h
    · exact .inl (blw_keys l c (tb_blw R wt l _ c h))
    · split at h
      · exact .inr (key_keys r c h)
      · cases h
    · exact .inr (blw_keys r c (tb_blw R wt r _ c h))
theorem tb_len' (R : Nat) (wt : Int → Int) : ∀ (t : Tr) (j : Nat), (tb R wt t j).length + t.key?.length ≤ t.size
  | .nil, j => by simp [tb, Tr.key?]
  | .node l k r, j => by
    have h1 := tb_len' R wt l (nx R (ch R wt l r j))
    have h2 := tb_len' R wt r (nx R (j - ch R wt l r j))
    have hk : ∀ (u : Tr) (s : Nat), (if 0 < s then u.key? else []).length ≤ u.key?.length := fun u s => by split <;> simp
    have h3 := hk l (ch R wt l r j)
    have h4 := hk r (j - ch R wt l r j)
    have h5 : (Tr.node l k r).key?.length = 1 := rfl
    rw [tb, List.length_append, List.length_append, List.length_append, h5, Tr.size]
    omega
theorem tb_len (R : Nat) (wt : Int → Int) (t : Tr) (j : Nat) : (tb R wt t j).length ≤ t.size := by
  have := tb_len' R wt t j
  omega
def OkT (R : Nat) (wt : Int → Int) (td : List Int) : Tr → Nat → Prop
  | .nil, _ => True
  | .node l k r, j => (l ≠ .nil → (tie td l k r l = true ↔ 0 < ch R wt l r j)) ∧ (r ≠ .nil → (tie td l k r r = true ↔ 0 < j - ch R wt l r j)) ∧ OkT R wt td l (nx R (ch R wt l r j)) ∧ OkT R wt td r (nx R (j - ch R wt l r j))
theorem okT_of (R : Nat) (wt : Int → Int) (td : List Int) : ∀ (t : Tr) (j : Nat), t.keys.Nodup → (∀ c ∈ blw t, (c ∈ td ↔ c ∈ tb R wt t j)) → OkT R wt td t j
  | .nil, _, _, _ => trivial
  | .node l k r, j, hn, h => by
    obtain ⟨n1, n2, n3, n4, n5⟩ := nd_node hn
    have own : ∀ (u : Tr) (s : Nat) (c : Int), c ∈ (if 0 < s then u.key? else []) ↔ (c ∈ u.key? ∧ 0 < s) := fun u s c => by split <;> simp [*]
    have inv : ∀ c, c ∈ tb R wt (.node l k r) j ↔ ((c ∈ l.key? ∧ 0 < ch R wt l r j) ∨ c ∈ tb R wt l (nx R (ch R wt l r j)) ∨ (c ∈ r.key? ∧ 0 < j - ch R wt l r j) ∨ c ∈ tb R wt r (nx R (j - ch R wt l r j))) := fun c => by
      rw [tb, List.mem_append, List.mem_append, List.mem_append, own, own]
      constructor
      · rintro ((h | h) | h | h)
        · exact .inl h
        · exact .inr (.inl h)
        · exact .inr (.inr (.inl h))
        · exact .inr (.inr (.inr h))
      · rintro (h | h | h | h)
        · exact .inl (.inl h)
        · exact .inl (.inr h)
        · exact .inr (.inl h)
        · exact .inr (.inr h)
    have tieI : ∀ u : Tr, u ≠ .nil → (tie td l k r u = true ↔ top1 u ∈ td) := fun u hu => by
      unfold tie; rw [key_top hu]; simp
    refine ⟨fun hl => ?_, fun hr => ?_, okT_of R wt td l _ n1 fun c hc => ?_, okT_of R wt td r _ n2 fun c hc => ?_⟩
    · have hc : top1 l ∈ l.key? := by rw [key_top hl]; exact .head _
      have hcl := key_keys l _ hc
      rw [tieI l hl, h _ (by simp [blw, hcl]), inv]
      constructor
      · rintro (h | h | h | h)
        · exact h.2
        · exact absurd (tb_blw R wt l _ _ h) (key_blw n1 _ hc)
        · exact absurd (key_keys r _ h.1) (n5 _ hcl)
        · exact absurd (blw_keys r _ (tb_blw R wt r _ _ h)) (n5 _ hcl)
      · exact fun h => .inl ⟨hc, h⟩
    · have hc : top1 r ∈ r.key? := by rw [key_top hr]; exact .head _
      have hcr := key_keys r _ hc
      rw [tieI r hr, h _ (by simp [blw, hcr]), inv]
      constructor
      · rintro (h | h | h | h)
        · exact absurd hcr (n5 _ (key_keys l _ h.1))
        · exact absurd hcr (n5 _ (blw_keys l _ (tb_blw R wt l _ _ h)))
        · exact h.2
        · exact absurd (tb_blw R wt r _ _ h) (key_blw n2 _ hc)
      · exact fun h => .inr (.inr (.inl ⟨hc, h⟩))
    · have hcl := blw_keys l c hc
      rw [h c (by simp [blw, hcl]), inv]
      constructor
      · rintro (h | h | h | h)
        · exact absurd hc (key_blw n1 c h.1)
        · exact h
        · exact absurd (key_keys r _ h.1) (n5 _ hcl)
        · exact absurd (blw_keys r _ (tb_blw R wt r _ _ h)) (n5 _ hcl)
      · exact fun h => .inr (.inl h)
    · have hcr := blw_keys r c hc
      rw [h c (by simp [blw, hcr]), inv]
      constructor
      · rintro (h | h | h | h)
        · exact absurd hcr (n5 _ (key_keys l _ h.1))
        · exact absurd hcr (n5 _ (blw_keys l _ (tb_blw R wt l _ _ h)))
        · exact absurd hc (key_blw n2 c h.1)
        · exact h
      · exact fun h => .inr (.inr (.inr h))
def unt (td : List Int) (x : Int) : Tr → Nat
  | .nil => 0
  | .node l k r => if x = k then 0 else if x < k then (if tie td l k r l then 0 else 1) + unt td x l else (if tie td l k r r then 0 else 1) + unt td x r
def one (x : Int) : Int → Int := fun y => if y = x then 1 else 0
theorem sw_out {x : Int} : ∀ {t : Tr}, x ∉ t.keys → sw (one x) t = 0
  | .nil, _ => rfl
  | .node l k r, h => by
    simp only [Tr.keys, List.mem_append, List.mem_singleton, not_or] at h
    rw [sw_node, sw_out h.1.1, sw_out h.2]
    have : one x k = 0 := by unfold one; rw [if_neg fun z => h.1.2 z.symm]
    omega
theorem gT_out (R : Nat) (wt : Int → Int) {x : Int} : ∀ {t : Tr}, x ∉ t.keys → ∀ j, gT R wt (one x) t j = 0
  | .nil, _, _ => rfl
  | .node l k r, h, j => by
    simp only [Tr.keys, List.mem_append, List.mem_singleton, not_or] at h
    have side : ∀ u : Tr, x ∉ u.keys → (∀ j, gT R wt (one x) u j = 0) → ∀ i, sdf R (sw (one x) u) (gT R wt (one x) u) i = 0 := fun u hu hi i => by
      cases i with
      | zero => show sw (one x) u + gT R wt (one x) u (R - 1) = 0; rw [sw_out hu, hi]; rfl
      | succ i => exact hi i
    rw [gT, side l h.1.1 (gT_out R wt h.1.1), side r h.2 (gT_out R wt h.2)]; rfl
theorem sw_in {x : Int} : ∀ {t : Tr}, t.keys.Nodup → x ∈ t.keys → sw (one x) t = 1
  | .nil, _, h => by simp [Tr.keys] at h
  | .node l k r, hn, h => by
    obtain ⟨n1, n2, n3, n4, n5⟩ := nd_node hn
    rw [sw_node]
    simp only [Tr.keys, List.mem_append, List.mem_singleton] at h
    rcases h with (h | h) | h
    · rw [sw_in n1 h, sw_out (n5 x h)]
      have : one x k = 0 := by unfold one; rw [if_neg fun z => n3 (by rw [z]; exact h)]
      omega
    · subst h
      rw [sw_out n3, sw_out n4]
      have : one x x = 1 := by unfold one; rw [if_pos rfl]
      omega
    · rw [sw_in n2 h, sw_out (fun z => n5 x z h)]
      have : one x k = 0 := by unfold one; rw [if_neg fun z => n4 (by rw [z]; exact h)]
      omega
theorem gT_unt (R : Nat) (wt : Int → Int) (td : List Int) (x : Int) : ∀ (t : Tr) (lo hi : Option Int) (j : Nat), t.ord lo hi → t.keys.Nodup → OkT R wt td t j → x ∈ t.keys → gT R wt (one x) t j = (unt td x t : Int)
  | .nil, _, _, _, _, _, _, h => by simp [Tr.keys] at h
  | .node l k r, lo, hi, j, ho, hn, ⟨t1, t2, t3, t4⟩, h => by
    obtain ⟨n1, n2, n3, n4, n5⟩ := nd_node hn
    obtain ⟨ol, orr⟩ := ord_lr ho
    have outs : ∀ u : Tr, x ∉ u.keys → ∀ i, sdf R (sw (one x) u) (gT R wt (one x) u) i = 0 := fun u hu i => by
      cases i with
      | zero => show sw (one x) u + gT R wt (one x) u (R - 1) = 0; rw [sw_out hu, gT_out R wt hu]; rfl
      | succ i => exact gT_out R wt hu i
    have ins : ∀ (u : Tr) (s : Nat), u.keys.Nodup → x ∈ u.keys → (tie td l k r u = true ↔ 0 < s) → gT R wt (one x) u (nx R s) = (unt td x u : Int) → sdf R (sw (one x) u) (gT R wt (one x) u) s = (((if tie td l k r u then 0 else 1) + unt td x u : Nat) : Int) := fun u s hu hx ht ih => by
      cases s with
      | zero =>
        have : tie td l k r u = false := by
          cases c : tie td l k r u with
          | false => rfl
          | true => have := ht.mp c; omega
        rw [this]
        show sw (one x) u + gT R wt (one x) u (R - 1) = _
        have ih : gT R wt (one x) u (R - 1) = _ := ih
        rw [ih, sw_in hu hx]
        simp
      | succ s =>
        rw [ht.mpr (by omega)]
        have ih : gT R wt (one x) u s = _ := ih
        show gT R wt (one x) u s = _
        rw [ih]; simp
    have ordl : l.ord lo (some k) := ho.2.2.1
    have ordr : r.ord (some k) hi := ho.2.2.2
    rw [gT, unt]
    simp only [Tr.keys, List.mem_append, List.mem_singleton] at h
    rcases h with (h | h) | h
    · have hlt := ol x h
      rw [if_neg (by omega), if_pos hlt, outs r (n5 x h), ins l _ n1 h (t1 (ne_of_mem h)) (gT_unt R wt td x l _ _ _ ordl n1 t3 h)]
      omega
    · subst h
      rw [if_pos rfl, outs l n3, outs r n4]; rfl
    · have hgt := orr x h
      rw [if_neg (by omega), if_neg (by omega), outs l (fun z => n5 x z h), ins r _ n2 h (t2 (ne_of_mem h)) (gT_unt R wt td x r _ _ _ ordr n2 t4 h)]
      omega
def meO (h : Int → Nat) (M : List Nat) (k : Int) : List Nat := M ++ (if h k ∈ M then [] else [h k])
def acc (h : Int → Nat) (M : List Nat) (ks : List Int) : List Nat := ks.foldl (meO h) M
def Parts (h : Int → Nat) (P : Int → Int) (T : List Int) : Prop := ∀ x ∈ T, ∀ y ∈ T, (h x = h y ↔ P x = P y)
theorem top_mem {t : Tr} (h : t ≠ .nil) : top1 t ∈ t.keys := by
  cases t with
  | nil => exact absurd rfl h
  | node l k r => simp [top1, Tr.keys]
theorem acc_unt (h : Int → Nat) (P : Int → Int) (T : List Int) (hh : Parts h P T) (td : List Int) (x : Int) : ∀ (u : Tr) (lo hi : Option Int) (a : Int) (M : List Nat), u.ord lo hi → u.keys.Nodup → x ∈ u.keys → (∀ x ∈ u.keys, x ∈ T ∧ P x = idf td a u x) → (∀ m ∈ M, ∃ y ∈ T, m = h y ∧ P y ∉ u.keys) → (a = top1 u ∨ (a ∉ u.keys ∧ h (top1 u) ∈ M)) →
    (acc h M (way x u)).length = (meO h M (top1 u)).length + unt td x u
  | .nil, _, _, _, _, _, _, hx, _, _, _ => by simp [Tr.keys] at hx
  | .node l k r, lo, hi, a, M, ho, hn, hx, hP, hM, ha => by
    obtain ⟨n1, n2, n3, n4, n5⟩ := nd_node hn
    obtain ⟨ol, orr⟩ := ord_lr ho
    have hk : k ∈ (Tr.node l k r).keys := by simp [Tr.keys]
    have hPk : P k = a := by rw [(hP k hk).2, idf, if_pos rfl]
    have hkT := (hP k hk).1
    have ordl : l.ord lo (some k) := ho.2.2.1
    have ordr : r.ord (some k) hi := ho.2.2.2
    show (acc h M (way x (.node l k r))).length = (meO h M k).length + unt td x (.node l k r)
    generalize hM' : meO h M k = M' at *
    have hkM : h k ∈ M' := by
      rw [← hM']
      unfold meO
      by_cases c : h k ∈ M
      · simp [c]
      · simp [c]
    have ctx : ∀ v : Tr, (∀ y ∈ v.keys, y ∈ (Tr.node l k r).keys) → k ∉ v.keys → (∀ m ∈ M', ∃ y ∈ T, m = h y ∧ P y ∉ v.keys) ∧ a ∉ v.keys := fun v sub kv => by
      have av : a ∉ v.keys := fun hav => by
        rcases ha with z | z
        · rw [z] at hav; exact kv hav
        · exact z.1 (sub a hav)
      refine ⟨fun m hm => ?_, av⟩
      rw [← hM'] at hm
      unfold meO at hm
      rcases List.mem_append.mp hm with hm | hm
      · obtain ⟨y, h1, h2, h3⟩ := hM m hm
        exact ⟨y, h1, h2, fun z => h3 (sub _ z)⟩
      · split at hm
        · cases hm
        · rw [List.mem_singleton] at hm
          exact ⟨k, hkT, hm, by rw [hPk]; exact av⟩
    have kid : ∀ v : Tr, v ≠ .nil → (∀ y ∈ v.keys, y ∈ (Tr.node l k r).keys) → k ∉ v.keys → (∀ x ∈ v.keys, x ∈ T ∧ P x = idf td (if tie td l k r v then a else top1 v) v x) →
        (∀ a' M'', (∀ x ∈ v.keys, x ∈ T ∧ P x = idf td a' v x) → (∀ m ∈ M'', ∃ y ∈ T, m = h y ∧ P y ∉ v.keys) → (a' = top1 v ∨ (a' ∉ v.keys ∧ h (top1 v) ∈ M'')) →
          (acc h M'' (way x v)).length = (meO h M'' (top1 v)).length + unt td x v) →
        (acc h M' (way x v)).length = M'.length + ((if tie td l k r v then 0 else 1) + unt td x v) := fun v hvn sub kv hPv ih => by
      obtain ⟨c1, c2⟩ := ctx v sub kv
      have htv := top_mem hvn
      have hPt := (hPv _ htv).2
      rw [idf_top td _ hvn] at hPt
      cases ht : tie td l k r v with
      | true =>
        rw [ht, if_pos rfl] at hPt
        rw [ht, if_pos rfl] at hPv
        have hin : h (top1 v) ∈ M' := by
          have : h (top1 v) = h k := (hh _ (hPv _ htv).1 k hkT).mpr (by rw [hPt, hPk])
          rw [this]; exact hkM
        rw [ih a M' hPv c1 (.inr ⟨c2, hin⟩)]
        unfold meO
        rw [if_pos hin, List.append_nil, if_pos rfl]; omega
      | false =>
        rw [ht, if_neg Bool.false_ne_true] at hPt
        rw [ht, if_neg Bool.false_ne_true] at hPv
        have hout : h (top1 v) ∉ M' := fun hm => by
          obtain ⟨y, h1, h2, h3⟩ := c1 _ hm
          have := (hh _ (hPv _ htv).1 y h1).mp h2
          rw [hPt] at this
          exact h3 (by rw [← this]; exact htv)
        rw [ih (top1 v) M' hPv c1 (.inl rfl)]
        unfold meO
        rw [if_neg hout, List.length_append, List.length_singleton, if_neg Bool.false_ne_true]; omega
    have Pl : ∀ x ∈ l.keys, x ∈ T ∧ P x = idf td (if tie td l k r l then a else top1 l) l x := fun x hx => by
      have hx' : x ∈ (Tr.node l k r).keys := by simp [Tr.keys, hx]
      refine ⟨(hP x hx').1, ?_⟩
      rw [(hP x hx').2, idf, if_neg (fun z => n3 (by rw [← z]; exact hx)), if_pos hx]
    have Pr : ∀ x ∈ r.keys, x ∈ T ∧ P x = idf td (if tie td l k r r then a else top1 r) r x := fun x hx => by
      have hx' : x ∈ (Tr.node l k r).keys := by simp [Tr.keys, hx]
      refine ⟨(hP x hx').1, ?_⟩
      rw [(hP x hx').2, idf, if_neg (fun z => n4 (by rw [← z]; exact hx)), if_neg (fun hl => n5 x hl hx)]
    rw [way, unt]
    have step : ∀ ks, acc h M (k :: ks) = acc h M' ks := fun ks => by unfold acc; rw [List.foldl_cons, hM']
    simp only [Tr.keys, List.mem_append, List.mem_singleton] at hx
    rcases hx with (hx | hx) | hx
    · have hlt := ol x hx
      rw [if_neg (by omega), if_pos hlt, if_neg (by omega), if_pos hlt, step]
      exact kid l (ne_of_mem hx) (fun y hy => by simp [Tr.keys, hy]) n3 Pl fun a' M'' h1 h2 h3 => acc_unt h P T hh td x l _ _ a' M'' ordl n1 hx h1 h2 h3
    · subst hx
      rw [if_pos rfl, if_pos rfl, step]; rfl
    · have hgt := orr x hx
      rw [if_neg (by omega), if_neg (by omega), if_neg (by omega), if_neg (by omega), step]
      exact kid r (ne_of_mem hx) (fun y hy => by simp [Tr.keys, hy]) n4 Pr fun a' M'' h1 h2 h3 => acc_unt h P T hh td x r _ _ a' M'' ordr n2 hx h1 h2 h3
theorem opened_is {R : Nat} {wt : Int → Int} {t : Tr} {L : List (List Int)} (ho : t.ord none none) (hl : Laid (tb R wt t (R - 1)) t L) {x : Int} (hx : x ∈ t.keys) : ((acc (numP L) [] (way x t)).length : Int) = 1 + gT R wt (one x) t (R - 1) := by
  have h1 := acc_unt (numP L) (pid (tb R wt t (R - 1)) t) t.keys (fun x hx y hy => hl.home hx hy) (tb R wt t (R - 1)) x t none none (top1 t) [] ho hl.nd hx (fun x hx => ⟨hx, rfl⟩) (fun m hm => by cases hm) (.inl rfl)
  have h2 := gT_unt R wt (tb R wt t (R - 1)) x t none none (R - 1) ho hl.nd (okT_of R wt _ t _ hl.nd fun c _ => Iff.rfl) hx
  rw [h2, h1]
  have : (meO (numP L) [] (top1 t)).length = 1 := by unfold meO; simp
  omega
end K18
namespace K18
open PySem L2 L3
def spSide : Sp := fun vs H Q _ => ∃ (a : Addr) (vl vr : V) (x k : Int), vs = [.ref a, .int k] ∧ H a = some (.tup [vl, .int x, vr]) ∧ Q (if k < x then vl else vr) H
def spAt : Sp := fun vs H Q _ => ∃ (v : V) (t : Tr) (k : Int), vs = [v, .int k] ∧ Rep H v t.d ∧ ∀ v', Rep H v' (at_ k t).d → Q v' H
inductive PD (H : Hp) : List (Key × V) → PTab → Prop where
  | nil : PD H [] []
  | cons {k : Int} {p : List Int} {b : Addr} {kvs : List (Key × V)} {ps : PTab} : H b = some (.lst (p.map V.int)) → PD H kvs ps → PD H ((Sum.inl k, .ref b) :: kvs) ((k, p) :: ps)
theorem PD.mono {H H' : Hp} {kvs : List (Key × V)} {ps : PTab} (h : PD H kvs ps) (s : Same H H') : PD H' kvs ps := by
  induction h with
  | nil => exact .nil
  | cons e _ ih => exact .cons (s _ _ e) ih
theorem PD.off {H : Hp} {kvs : List (Key × V)} {ps : PTab} {d : Addr} {xs : List (Key × V)} {o' : HO} (h : PD H kvs ps) (hd : H d = some (.dK xs)) : PD (L2.upd H d o') kvs ps := by
  induction h with
  | nil => exact .nil
  | cons e _ ih => exact .cons (by rw [upd_ne (fun z => by rw [z, hd] at e; cases e)]; exact e) ih
theorem PD.rmd {H : Hp} {kvs : List (Key × V)} {ps : PTab} {d : Addr} {xs : List (Key × V)} (h : PD H kvs ps) (hd : H d = some (.dK xs)) : PD (rm d H) kvs ps := by
  induction h with
  | nil => exact .nil
  | cons e _ ih => exact .cons (by rw [rm_ne (fun z => by rw [z, hd] at e; cases e)]; exact e) ih
theorem PD.length {H : Hp} {kvs : List (Key × V)} {ps : PTab} (h : PD H kvs ps) : kvs.length = ps.length := by
  induction h with
  | nil => rfl
  | cons _ _ ih => rw [List.length_cons, List.length_cons, ih]
theorem PD.append {H : Hp} {a b : List (Key × V)} {s t : PTab} (h : PD H a s) (h' : PD H b t) : PD H (a ++ b) (s ++ t) := by
  induction h with
  | nil => exact h'
  | cons e _ ih => exact .cons e ih
theorem PD.val {H : Hp} {kvs : List (Key × V)} {ps : PTab} (h : PD H kvs ps) {c : Int} (hc : c ∈ ps.map (·.1)) : ∃ b, valV kvs (Sum.inl c : Key) = some (.ref b) ∧ H b = some (.lst ((lkP ps c).map V.int)) := by
  induction h with
  | nil => simp at hc
  | @cons k p b kvs ps e _ ih =>
    by_cases hk : k = c
    · subst hk
      exact ⟨b, valV_pos rfl, by simpa [lkP] using e⟩
    · obtain ⟨b', h1, h2⟩ := ih (by
        rw [List.map_cons, List.mem_cons] at hc
        rcases hc with z | z
        · exact absurd z.symm hk
        · exact z)
      refine ⟨b', by rw [valV_neg (by simpa using hk)]; exact h1, ?_⟩
      have : lkP ((k, p) :: ps) c = lkP ps c := by unfold lkP; rw [List.find?_cons]; simp [hk]
      rw [this]; exact h2
theorem PD.none {H : Hp} {kvs : List (Key × V)} {ps : PTab} (h : PD H kvs ps) {k : Int} (hk : k ∉ ps.map (·.1)) : valV kvs (Sum.inl k : Key) = Option.none := by
  induction h with
  | nil => rfl
  | @cons k' p b kvs ps e _ ih =>
    simp only [List.map_cons, List.mem_cons, not_or] at hk
    rw [valV_neg (by simpa using fun z => hk.1 z.symm)]
    exact ih hk.2
theorem PD.put {H : Hp} {kvs : List (Key × V)} {ps : PTab} (h : PD H kvs ps) {k : Int} {p : List Int} {b : Addr} (hk : k ∉ ps.map (·.1)) (eb : H b = some (.lst (p.map V.int))) : PD H (putK kvs (Sum.inl k : Key) (.ref b)) (ps ++ [(k, p)]) := by
  rw [putK_new _ (h.none hk)]
  exact h.append (.cons eb .nil)
theorem PD.drop {H : Hp} {kvs : List (Key × V)} {ps : PTab} (h : PD H kvs ps) (c : Int) : PD H (dropK kvs (Sum.inl c : Key)) (ps.filter fun e => decide (e.1 ≠ c)) := by
  induction h with
  | nil => exact .nil
  | @cons k p b kvs ps e _ ih =>
    unfold dropK at ih ⊢
    by_cases hk : k = c
    · subst hk
      rw [List.filter_cons, List.filter_cons, if_neg (by simp), if_neg (by simp)]
      exact ih
    · rw [List.filter_cons, List.filter_cons, if_pos (by simpa using hk), if_pos (by simpa using hk)]
      exact .cons e ih
theorem PD.get {H : Hp} {kvs : List (Key × V)} {ps : PTab} (h : PD H kvs ps) {i : Nat} {k : Key} {x : V} (hi : kvs[i]? = some (k, x)) : ∃ e b, ps[i]? = some e ∧ x = .ref b ∧ H b = some (.lst (e.2.map V.int)) := by
  induction h generalizing i with
  | nil => simp at hi
  | @cons k' p b kvs ps e _ ih =>
    cases i with
    | zero =>
      simp at hi
      exact ⟨(k', p), b, rfl, hi.2.symm, e⟩
    | succ i => exact ih (by simpa using hi)
def tot (D : PTab) : Nat := (D.map fun e => e.2.length).sum
theorem lkP_none : ∀ {D : PTab} {c : Int}, c ∉ D.map (·.1) → lkP D c = []
  | [], _, _ => rfl
  | e :: D, c, h => by
    simp only [List.map_cons, List.mem_cons, not_or] at h
    have := lkP_none (D := D) (c := c) h.2
    unfold lkP at this ⊢
    rw [List.find?_cons]
    have hne : ¬ e.1 = c := fun z => h.1 z.symm
    simp only [hne, decide_false]
    exact this
theorem tot_pop : ∀ (D : PTab) (c : Int), (D.map (·.1)).Nodup → tot (D.filter fun e => decide (e.1 ≠ c)) + (lkP D c).length = tot D
  | [], _, _ => rfl
  | e :: D, c, hn => by
    obtain ⟨h1, h2⟩ := List.nodup_cons.mp (show (e.1 :: D.map (·.1)).Nodup from hn)
    have ih := tot_pop D c h2
    have t1 : tot (e :: D) = e.2.length + tot D := by simp [tot]
    by_cases hk : e.1 = c
    · subst hk
      have f : (e :: D).filter (fun x => decide (x.1 ≠ e.1)) = D.filter (fun x => decide (x.1 ≠ e.1)) := by rw [List.filter_cons, if_neg (by simp)]
      have l1 : lkP (e :: D) e.1 = e.2 := by simp [lkP]
      rw [f, l1, t1]
      rw [lkP_none h1, List.length_nil, Nat.add_zero] at ih
      omega
    · have f : (e :: D).filter (fun x => decide (x.1 ≠ c)) = e :: D.filter (fun x => decide (x.1 ≠ c)) := by rw [List.filter_cons, if_pos (by simpa using hk)]
      have l1 : lkP (e :: D) c = lkP D c := by unfold lkP; rw [List.find?_cons]; simp [hk]
      have t2 : tot (e :: D.filter fun x => decide (x.1 ≠ c)) = e.2.length + tot (D.filter fun x => decide (x.1 ≠ c)) := by simp [tot]
      rw [f, l1, t1, t2]
      omega
theorem tot_mem : ∀ {D : PTab} {e : Int × List Int}, e ∈ D → e.2.length ≤ tot D
  | x :: D, e, h => by
    have t1 : tot (x :: D) = x.2.length + tot D := by simp [tot]
    rcases List.mem_cons.mp h with rfl | h
    · omega
    · have := tot_mem h; omega
def spPages : Sp := fun vs H Q _ => ∃ (v : V) (t : Tr) (td : Addr) (ts : List Int), vs = [v, .ref td] ∧ Rep H v (Tr.d t) ∧ t.ht < 80 ∧ t.size ≤ 60 ∧ t.keys.Nodup ∧ H td = some (.lst (ts.map V.int)) ∧
  ∀ r H' bs L, H r = none → Same H H' → H' r = some (.lst (bs.map V.ref)) → Pgs H' bs L → (∀ b ∈ bs, H b = none ∧ b ≠ r) → bs.Nodup → L.Perm (((en ts t).map (·.2)).map so) → LexS L → Q (.ref r) H'
theorem pgs_of_pairs {H : Hp} : ∀ {ys : List (Addr × List Int)}, (∀ z ∈ ys, H z.1 = some (.lst (z.2.map V.int))) → Pgs H (ys.map (·.1)) (ys.map (·.2))
  | [], _ => trivial
  | y :: ys, h => ⟨h y (.head _), pgs_of_pairs fun z hz => h z (.tail _ hz)⟩
section
variable {P : Program} {w : World} {K : PySem.W.Frag} {mg : Str → Option Value} {base : Heap}
theorem ok_side {f : Addr} (F : Fd K mg "side_towards" s_side_towards f) (T : Tx K mg) : Cal P w K mg base CX0 1 "side_towards" spSide := by
  refine F.cal sc_side_towards (fun _ _ _ _ _ _ us hl => L3.bind2 (fun _ _ => rfl) us hl) (fun vs H Q E h => ?_) (fun cdv A outer s H vs Q E hr h => ?_)
  · obtain ⟨a, vl, vr, x, k, rfl, _⟩ := h; rfl
  · obtain ⟨a, vl, vr, x, k, rfl, ea, q⟩ := h
    refine ⟨_, (bone (sret (qif (tcmp rLt (qv 1) (qix (xIx K) (qv 0) qint (fun _ _ => rfl)) (nomark _)) (qix (xIx K) (qv 0) qint (fun _ _ => rfl)) (qix (xIx K) (qv 0) qint (fun _ _ => rfl))))), ?_⟩
    refine ⟨_, rfl, _, rfl, a, _, 1, _, rfl, rfl, .inr (SqT.of ea), atI_nat (j := 1) rfl, _, _, rfl, rfl, _, rfl, ?_⟩
    refine ite2 (fun h => ?_) (fun h => ?_)
    · have h : k < x := of_decide_eq_true h
      rw [if_pos h] at q
      exact ⟨_, rfl, a, _, 0, _, rfl, rfl, .inr (SqT.of ea), atI_nat (j := 0) rfl, q⟩
    · have h : ¬ k < x := fun z => h (decide_eq_true z)
      rw [if_neg h] at q
      exact ⟨_, rfl, a, _, 2, _, rfl, rfl, .inr (SqT.of ea), atI_nat (j := 2) rfl, q⟩
theorem ok_at {f : Addr} (F : Fd K mg "knot_at" s_knot_at f) (T : Tx K mg) (C_side_towards : Cal P w K mg base CX0 1 "side_towards" spSide) : Cal P w K mg base CX0 2 "knot_at" spAt := by
  refine F.cal sc_knot_at (fun _ _ _ _ _ _ us hl => L3.bind2 (fun _ _ => rfl) us hl) (fun vs H Q E h => ?_) (fun cdv A outer s H vs Q E hr h => ?_)
  · obtain ⟨v, t, k, rfl, _⟩ := h; rfl
  · obtain ⟨v, t, k, rfl, hv, q⟩ := h
    refine ⟨_, (bcons (swhile PassesOwn.never (QW.tst (wand (tcmp rIsNot (qv 0) qnon (nomark _)) (wand1 (tcmp (rNeq hr) (qix (xIx K) (qv 0) qint (fun _ _ => rfl)) (qv 1) (nomark _)))))
        (bone (sset (i := 0) sc_knot_at.nd rfl (by first | exact Or.inl rfl | exact Or.inr rfl) (qF C_side_towards (hr.mono (by omega)) pass0 rfl (qcons (qv 0) (qcons (qv 1) qnil))))))
      (bone (sret (qv 0)))), ?_⟩
    refine ⟨fun m σ H' => ∃ (v' : V) (t' : Tr), σ = [some v', some (.int k)] ∧ H' = H ∧ Rep H v' t'.d ∧ at_ k t' = at_ k t ∧ m = t'.ht, ⟨_, v, t, rfl, rfl, hv, rfl, rfl⟩, ?_⟩
    rintro m σ H1 ⟨v', t', rfl, rfl, hv', hat, rfl⟩
    cases t' with
    | nil =>
      cases rep_nil hv'
      refine ⟨_, rfl, rfl, _, rfl, ?_⟩
      refine ⟨_, rfl, q .non ?_⟩
      rw [← hat]; exact .non
    | node l x r =>
      obtain ⟨a, vl, vr, rfl, ea, hl, hr'⟩ := rep_node hv'
      refine ⟨_, rfl, rfl, _, rfl, ?_⟩
      refine iteT ?_
      refine ⟨_, rfl, a, _, 1, _, rfl, rfl, .inr (SqT.of ea), atI_nat (j := 1) rfl, _, rfl, _, rfl, ?_⟩
      by_cases hx : x = k
      · rw [decide_eq_true hx]
        refine iteF ?_
        refine ⟨_, rfl, q _ ?_⟩
        rw [← hat, at_, if_pos hx]; exact hv'
      · rw [decide_eq_false hx]
        refine iteT ?_
        refine ⟨fun σ' H' => ∃ m', m' < (Tr.node l x r).ht ∧ ∃ (v' : V) (t' : Tr), σ' = [some v', some (.int k)] ∧ H' = H1 ∧ Rep H1 v' t'.d ∧ at_ k t' = at_ k t ∧ m' = t'.ht, fun _ _ z => z, ?_⟩
        refine ⟨_, rfl, _, rfl, a, vl, vr, x, k, rfl, ea, ?_⟩
        have hv2 : Rep H1 (if k < x then vl else vr) (if k < x then l else r).d := by
          by_cases hk : k < x
          · rw [if_pos hk, if_pos hk]; exact hl
          · rw [if_neg hk, if_neg hk]; exact hr'
        refine ⟨_, ?_, _, _, rfl, rfl, hv2, ?_, rfl⟩
        · rw [Tr.ht]; split <;> omega
        · rw [← hat]
          conv => rhs; rw [at_, if_neg hx]
          split <;> rfl
theorem ok_pages {f : Addr} (F : Fd K mg "pages_tied" s_pages_tied f) (T : Tx K mg) (C_with_kids : Cal P w K mg base CX0 80 "with_kids" (spWk 80)) : Cal P w K mg base CX0 82 "pages_tied" spPages := by
  refine F.cal sc_pages_tied (fun _ _ _ _ _ _ us hl => L3.bind2 (fun _ _ => rfl) us hl) (fun vs H Q E h => ?_) (fun cdv A outer s H vs Q E hr h => ?_)
  · obtain ⟨v, t, td, ts, rfl, _⟩ := h; rfl
  · obtain ⟨v, t, td, ts, rfl, hv, ht, hz, hnd, etd, q⟩ := h
    have hok := tdOk_self ts t
    refine ⟨_, (bcons (sset (i := 2) sc_pages_tied.nd rfl (by first | exact Or.inl rfl | exact Or.inr rfl) qdict)
      (bcons (sfor PassesOwn.never rfl (iseq K (qF C_with_kids (hr.mono (by omega)) pass0 rfl (qcons (qv 0) qnil))) (gtup (n := 2) K rfl (gscons (gname (i := 3) sc_pages_tied.nd rfl (by first | exact Or.inl rfl | exact Or.inr rfl)) (gscons (gname (i := 4) sc_pages_tied.nd rfl (by first | exact Or.inl rfl | exact Or.inr rfl)) gsnil)))
        (bcons (sset (i := 5) sc_pages_tied.nd rfl (by first | exact Or.inl rfl | exact Or.inr rfl) (qlst (qcons (qv 3) qnil)))
        (bcons (sfor PassesOwn.never rfl (iseq K (qv 4)) (gname (i := 6) sc_pages_tied.nd rfl (by first | exact Or.inl rfl | exact Or.inr rfl))
          (bone (sif (tcmp (rInn K) (qv 6) (qv 1) (by with_unfolding_all rfl)) (bone (sexpr (qBm K PySem.F.plainAttrs_list PySem.F.slot_list_extend PySem.F.type_list_extend mExtend (qv 5) (qcons (qdp1 (qv 2) (qv 6)) qnil)))) bnil)))
        (bone (sdput hr (qv 2) (qv 3) (qv 5) rfl)))))
      (bone (sret (qB (fSortLL K hr) rfl T.b_sorted bt_sorted (qcons (qcomp (sc := defScope s_pages_tied) (NX := ["tree", "tied", "pages", "key", "kids", "page", "kid"]) ["page"] [none] rfl (ivals (qv 2)) (fun _ _ _ => (gname (i := 0) (show (["page"] : List Str).Nodup by decide +kernel) rfl (by first | exact Or.inl rfl | exact Or.inr rfl))) (fun _ _ _ => csnil) (fun _ _ _ => (qB (fSort K) rfl T.b_sorted bt_sorted (qcons (qv 0) qnil))) rfl rfl (by decide +kernel)) qnil)))))), ?_⟩
    refine fun d H1 n1 s1 e1 _ => ?_
    refine ⟨_, rfl, v, t, rfl, hv.mono s1, ht, by omega, fun r H2 ws s2 e2 g2 => ?_⟩
    have ed2 := s2 _ _ e1
    have hrd : r ≠ d := fun z => by rw [z, ed2] at e2; cases e2
    have gB : Reps (rm d H2) ws (t.wk.map kidD) := Reps.apart ed2 g2 (pures_map pure_kid _)
    have eB : rm d H2 r = some (.lst ws) := by rw [rm_ne hrd]; exact e2
    have sHB : Same H (rm d H2) := fun b o hb => by rw [rm_ne (ne_of_none hb n1)]; exact s2 _ _ (s1 _ _ hb)
    have hlw := g2.length
    rw [List.length_map, Tr.wk_length] at hlw
    have OKF := okF_tree ts ts t [] hnd hok (fun e he => by cases he) List.nodup_nil
    have hfold := fold_en ts ts t [] hnd hok (fun e he => by cases he)
    refine ⟨r, rfl, .inl ⟨⟨_, SqL.of e2⟩, for_list (xs := ws) (fun i σ H' => ∃ z3 z4 z5 z6 kvs ps, σ = [some v, some (.ref td), some (.ref d), z3, z4, z5, z6] ∧ Same (rm d H2) H' ∧ H' d = some (.dK kvs) ∧ PD H' kvs ps ∧ ps = (t.wk.take i).foldl (stp ts) [] ∧ tot ps = i ∧ ps.length ≤ i)
      ⟨none, none, none, none, [], [], rfl, rm_same, ed2, .nil, rfl, rfl, Nat.le_refl _⟩ (fun i σ H' _ hh => by obtain ⟨_, _, _, _, _, _, _, s', _⟩ := hh; exact SqL.of (s' _ _ eB)) ?_ ?_⟩⟩
    · rintro i x σ H3 hx ⟨z3, z4, z5, z6, kvs, ps, rfl, s3, ed, pd, hps, htot, hpl⟩
      have hi : i < ws.length := (List.getElem?_eq_some_iff.mp hx).1
      obtain ⟨e, he, ge⟩ := reps_map gB hx
      obtain ⟨b, c, rfl, eb, ec⟩ := rep_kid ge
      have eb3 := s3 _ _ eb
      have ec3 := s3 _ _ ec
      have etd3 : H3 td = some (.lst (ts.map V.int)) := s3 _ _ (sHB _ _ etd)
      obtain ⟨ok1, ok2, ok3, ok4⟩ := okF_at ts t.wk [] i e OKF he
      rw [← hps] at ok1 ok3 ok4
      have hstp : (t.wk.take (i + 1)).foldl (stp ts) [] = stp ts ps e := by rw [List.take_add_one, he, List.foldl_append, ← hps]; rfl
      refine ⟨b, _, rfl, SqT.of eb3, rfl, _, _, rfl, _, _, rfl, rfl, ?_⟩
      refine ⟨_, rfl, (show 1 ≤ sizeLine by decide), fun pg H4 n4 s4 e4 _ => ?_⟩
      have hdp : d ≠ pg := fun z => by rw [z, n4] at ed; cases ed
      have hcd : c ≠ d := fun z => by rw [z, rm_self] at ec; cases ec
      have hcp : c ≠ pg := fun z => by rw [z, n4] at ec3; cases ec3
      have htp : td ≠ pg := fun z => by rw [z, n4] at etd3; cases etd3
      have htdd : td ≠ d := ne_of_none etd n1
      refine ⟨_, rfl, c, rfl, .inl ⟨⟨_, SqL.of (s4 _ _ ec3)⟩, for_list (xs := e.2.map V.int) (fun j σ H' => ∃ z6 kvs' D p, σ = [some v, some (.ref td), some (.ref d), some (.int e.1), some (.ref c), some (.ref pg), z6] ∧ Same (rm pg (rm d H4)) H' ∧ H' d = some (.dK kvs') ∧ H' pg = some (.lst (p.map V.int)) ∧ PD (rm pg H') kvs' D ∧ (D, p) = (e.2.take j).foldl (stK ts) (ps, [e.1]) ∧
          (D.map (·.1)).Nodup ∧ tot D + p.length = i + 1 ∧ (∀ c ∈ e.2.drop j, c ∈ D.map (·.1)) ∧ (∀ x ∈ D.map (·.1), x ∈ ps.map (·.1)) ∧ D.length ≤ ps.length)
        ⟨z6, kvs, ps, [e.1], rfl, fun x o hx => by
            have h1 : x ≠ pg := fun z => by rw [z, rm_self] at hx; cases hx
            rw [rm_ne h1] at hx
            exact rm_same _ _ hx, s4 _ _ ed, e4, pd.mono (rm_of s4 n4), rfl, ok4, by rw [htot]; rfl, fun c hc => ok1 c (by simpa using hc), fun x hx => hx, Nat.le_refl _⟩
        (fun j σ H' _ hh => by obtain ⟨_, _, _, _, _, s', _⟩ := hh; exact SqL.of (s' _ _ (by rw [rm_ne hcp, rm_ne hcd]; exact s4 _ _ ec3))) ?_ ?_⟩⟩
      · rintro j y σ H5 hy ⟨z6', kvs', D, p, rfl, s5, ed5, ep5, pd5, hDp, hDn, hDt, hDc, hDs, hDl⟩
        rw [List.getElem?_map] at hy
        obtain ⟨kk, hkk, rfl⟩ := Option.map_eq_some_iff.mp hy
        have etd5 : H5 td = some (.lst (ts.map V.int)) := s5 _ _ (by rw [rm_ne htp, rm_ne htdd]; exact s4 _ _ etd3)
        have hdrop : e.2.drop j = kk :: e.2.drop (j + 1) := by
          obtain ⟨hj, hj'⟩ := List.getElem?_eq_some_iff.mp hkk
          rw [List.drop_eq_getElem_cons hj, hj']
        have hst : (e.2.take (j + 1)).foldl (stK ts) (ps, [e.1]) = stK ts (D, p) kk := by rw [List.take_add_one, hkk, List.foldl_append, ← hDp]; rfl
        refine ⟨_, rfl, _, rfl, td, _, rfl, .inl (SqL.of etd5), rfl, flat_ints _, _, rfl, ?_⟩
        rw [inV_ints]
        by_cases hin : kk ∈ ts
        · rw [decide_eq_true hin]
          refine iteT ?_
          have hkD : kk ∈ D.map (·.1) := hDc kk (by rw [hdrop]; exact .head _)
          obtain ⟨bp, hv1, hb1⟩ := pd5.val hkD
          have hbp : bp ≠ pg := fun z => by rw [z, rm_self] at hb1; cases hb1
          rw [rm_ne hbp] at hb1
          have hbd : bp ≠ d := fun z => by rw [z, ed5] at hb1; cases hb1
          have htp := tot_pop D kk hDn
          refine ⟨_, rfl, .inl ⟨rfl, _, SqL.of ep5⟩, _, rfl, d, rfl, .inl ⟨_, .inl ed5⟩, _, rfl, kvs', (Sum.inl kk : Key), .ref bp, ed5, rfl, hv1, ?_⟩
          refine ⟨pg, bp, _, _, rfl, rfl, by rw [upd_ne hdp.symm]; exact ep5, by rw [upd_ne hbd]; exact hb1, sizeBig' (by rw [List.length_map, List.length_map]; omega), ?_⟩
          have hst' : stK ts (D, p) kk = (D.filter (fun e => decide (e.1 ≠ kk)), p ++ lkP D kk) := by unfold stK; rw [if_pos hin]
          refine ⟨_, dropK kvs' (Sum.inl kk), D.filter (fun e => decide (e.1 ≠ kk)), p ++ lkP D kk, rfl, same_upd (same_upd s5 (by rw [rm_ne hdp]; exact rm_self)) rm_self, by rw [upd_ne hdp, upd_same], by rw [upd_same, List.map_append], ?_, by rw [hst, hst'], ?_, ?_, ?_, ?_, ?_⟩
          · rw [rm_upd]
            have : PD (upd (rm pg H5) d (.dK (dropK kvs' (Sum.inl kk)))) (dropK kvs' (Sum.inl kk)) (D.filter fun e => decide (e.1 ≠ kk)) := (pd5.drop kk).off (xs := kvs') (by rw [rm_ne hdp]; exact ed5)
            refine this.mono fun x o hx => ?_
            by_cases hxd : x = d
            · subst hxd
              rw [upd_same] at hx
              rw [rm_ne hdp, upd_same]; exact hx
            · rw [upd_ne hxd] at hx
              have hxp : x ≠ pg := fun z => by rw [z, rm_self] at hx; cases hx
              rw [rm_ne hxp] at hx
              rw [rm_ne hxp, upd_ne hxd]; exact hx
          · exact List.Nodup.sublist (List.Sublist.map _ List.filter_sublist) hDn
          · rw [List.length_append]; omega
          · intro c hc
            have h1 := hDc c (by rw [hdrop]; exact .tail _ hc)
            obtain ⟨x, hx, rfl⟩ := List.mem_map.mp h1
            have hne : x.1 ≠ kk := fun z => by
              have hnd' : (kk :: e.2.drop (j + 1)).Nodup := by rw [← hdrop]; exact List.Nodup.sublist (List.drop_sublist _ _) ok2
              exact (List.nodup_cons.mp hnd').1 (by rw [← z]; exact hc)
            exact List.mem_map.mpr ⟨x, List.mem_filter.mpr ⟨hx, decide_eq_true hne⟩, rfl⟩
          · intro x hx
            obtain ⟨y, hy, rfl⟩ := List.mem_map.mp hx
            exact hDs _ (List.mem_map.mpr ⟨y, (List.mem_filter.mp hy).1, rfl⟩)
          · have := List.length_filter_le (fun e : Int × List Int => decide (e.1 ≠ kk)) D
            omega
        · rw [decide_eq_false hin]
          refine iteF ?_
          have hst' : stK ts (D, p) kk = (D, p) := by unfold stK; rw [if_neg hin]
          exact ⟨_, kvs', D, p, rfl, s5, ed5, ep5, pd5, by rw [hst, hst'], hDn, hDt, fun c hc => hDc c (by rw [hdrop]; exact .tail _ hc), hDs, hDl⟩
      · rintro σ H5 ⟨z6', kvs', D, p, rfl, s5, ed5, ep5, pd5, hDp, hDn, hDt, hDc, hDs, hDl⟩
        rw [List.length_map, List.take_length] at hDp
        have hkl := pd5.length
        have he1 : e.1 ∉ D.map (·.1) := fun h => ok3 (hDs _ h)
        refine ⟨_, rfl, _, rfl, _, rfl, d, _, rfl, DPut.k (k := (Sum.inl e.1 : Key)) ed5 (sizeBig (by omega)), ?_⟩
        have hsd : stp ts ps e = D ++ [(e.1, p)] := by unfold stp; rw [← hDp]
        refine ⟨_, _, _, _, putK kvs' (Sum.inl e.1) (.ref pg), D ++ [(e.1, p)], rfl, ?_, upd_same, ?_, by rw [hstp, hsd], ?_, ?_⟩
        · refine same_upd (fun x o hx => ?_) rm_self
          have hxd : x ≠ d := fun z => by rw [z, rm_self] at hx; cases hx
          have h3 := s3 _ _ hx
          have hxp : x ≠ pg := ne_of_none h3 n4
          exact s5 _ _ (by rw [rm_ne hxp, rm_ne hxd]; exact s4 _ _ h3)
        · exact ((pd5.mono rm_same).put he1 ep5).off ed5
        · simp [tot] at hDt ⊢; omega
        · simp; omega
    · rintro σ H3 ⟨z3, z4, z5, z6, kvs, ps, rfl, s3, ed, pd, hps, htot, hpl⟩
      rw [List.take_of_length_le (by rw [Tr.wk_length]; omega), hfold, List.nil_append] at hps
      subst hps
      have sH3 : Same H H3 := sHB.trans s3
      have hkl := pd.length
      refine ⟨_, rfl, d, kvs, rfl, .inl ed, fun ob H4 e4 s4 acc ha => ?_⟩
      have pd4 : PD (rm d H3) kvs (en ts t) := pd.rmd ed
      have sH4 : Same H H4 := fun x o hx => s4 _ _ (by rw [rm_ne (ne_of_none hx n1)]; exact sH3 _ _ hx)
      have hda : d ≠ acc := fun z => by rw [z, ha] at e4; cases e4
      refine comp_vals (kvs := kvs) (fun i ys σ H' => ∃ (z : Option V) (zs : List (Addr × List Int)), σ = [z] ∧ H' d = some (.frz ob (.dK kvs)) ∧ Same H4 H' ∧ H' acc = some (.lst ys) ∧ ys = zs.map (fun z => V.ref z.1) ∧ zs.length = i ∧ (∀ z ∈ zs, H' z.1 = some (.lst (z.2.map V.int)) ∧ H4 z.1 = none ∧ z.1 ≠ acc) ∧ (zs.map (·.1)).Nodup ∧ zs.map (·.2) = (((en ts t).take i).map (·.2)).map so)
        ⟨none, [], rfl, by rw [upd_ne hda]; exact e4, same_new ha, upd_same, rfl, rfl, (fun z hz => by cases hz), List.nodup_nil, rfl⟩ (fun i ys σ H' hh => by obtain ⟨_, _, _, e', _⟩ := hh; exact e') ?_ ?_
      · rintro i ys k x σ H5 hkv hi ⟨z, zs, rfl, e5, s5, ea5, rfl, hzl, hzs, hzn, hzm⟩
        obtain ⟨e, b, he, rfl, eb⟩ := pd4.get hkv
        have eb5 : H5 b = some (.lst (e.2.map V.int)) := s5 _ _ (s4 _ _ eb)
        have hle := tot_mem (List.mem_of_getElem? he)
        refine ⟨_, rfl, b, e.2, rfl, SqL.of eb5, by omega, fun q6 H6 ns6 n6 s6 e6 pm6 so6 => ?_⟩
        have hns : ns6 = so e.2 := so_one pm6 so6
        subst hns
        have hqa : q6 ≠ acc := fun z => by rw [z, ea5] at n6; cases n6
        refine cpost (s6 _ _ ea5) (sizeBig (by rw [List.length_map]; omega)) hi ?_
        have hdq : d ≠ acc := hda
        refine ⟨_, zs ++ [(q6, so e.2)], rfl, by rw [upd_ne hda]; exact s6 _ _ e5, same_upd (s5.trans s6) ha, upd_same, by rw [List.map_append]; rfl, by simp [hzl], fun z hz => ?_, ?_, ?_⟩
        · rcases List.mem_append.mp hz with hz | hz
          · obtain ⟨h1, h2, h3⟩ := hzs z hz
            exact ⟨by rw [upd_ne h3]; exact s6 _ _ h1, h2, h3⟩
          · rw [List.mem_singleton] at hz
            subst hz
            exact ⟨by rw [upd_ne hqa]; exact e6, s5.free n6, hqa⟩
        · rw [List.map_append, List.nodup_append]
          refine ⟨hzn, by simp, fun a ha' b' hb' z => ?_⟩
          obtain ⟨y, hy, rfl⟩ := List.mem_map.mp ha'
          have : b' = q6 := by simpa using hb'
          subst this
          have h1 := (hzs y hy).1
          rw [z, n6] at h1; cases h1
        · rw [List.map_append, hzm, List.take_add_one, he, List.map_append, List.map_append]; rfl
      · rintro ys σ H5 ⟨z, zs, rfl, e5, s5, ea5, rfl, hzl, hzs, hzn, hzm⟩
        rw [hkl, List.take_length] at hzm
        refine ⟨acc, zs, rfl, SqL.of ea5, by omega, fun z hz => (hzs z hz).1, fun q6 H6 ys6 n6 s6 e6 _ pm6 lx6 => ?_⟩
        have sH5 : Same H H5 := sH4.trans s5
        refine q q6 H6 (ys6.map (·.1)) (ys6.map (·.2)) (sH5.free n6) (sH5.trans s6) (by rw [List.map_map]; exact e6) (pgs_of_pairs fun z hz => s6 _ _ (hzs z (pm6.mem_iff.mp hz)).1) (fun b hb => ?_) ((pm6.map _).nodup_iff.mpr hzn) (by rw [← hzm]; exact pm6.map _) (List.pairwise_map.mpr lx6)
        obtain ⟨z, hz, rfl⟩ := List.mem_map.mp hb
        obtain ⟨h1, h2, h3⟩ := hzs z (pm6.mem_iff.mp hz)
        exact ⟨sH4.free h2, fun zz => by rw [zz, n6] at h1; cases h1⟩
end
end K18
namespace K18
open PySem L2 L3
def costs (R : Nat) (wt : Int → Int) (u : Tr) : List Int := (List.range R).map (cT R wt u)
def sds (R : Nat) (wt : Int → Int) (u : Tr) : List Int := (List.range R).map (sd R wt u)
theorem costs_snoc (n : Nat) (wt : Int → Int) (u : Tr) : costs (n + 1) wt u = (List.range n).map (cT (n + 1) wt u) ++ [cT (n + 1) wt u n] := by
  unfold costs; rw [List.range_succ, List.map_append]; rfl
theorem sds_cons (n : Nat) (wt : Int → Int) (u : Tr) : sds (n + 1) wt u = (sw wt u + cT (n + 1) wt u n) :: (List.range n).map (cT (n + 1) wt u) := by
  unfold sds; rw [List.range_succ_eq_map, List.map_cons, List.map_map]; rfl
theorem cut_init (xs : List V) (x : V) : cutV (xs ++ [x]) none (some (-1)) = xs := by
  unfold cutV HT.sIx
  have e : (-1 + ((xs.length : Int) + 1)).toNat = xs.length := by omega
  simp [e]
theorem zeros (n : Nat) : ((List.range n).map fun _ => (0 : Int)).map V.int = (List.replicate n [V.int 0]).flatten := by
  induction n with
  | zero => rfl
  | succ n ih => rw [List.range_succ, List.map_append, List.map_append, ih, List.replicate_succ', List.flatten_append]; rfl
theorem cut_init_ne (xs : List V) (x : V) : ¬ (HT.sIx (xs ++ [x]).length 0 none = 0 ∧ HT.sIx (xs ++ [x]).length (xs ++ [x]).length (some (-1)) = (xs ++ [x]).length) := by
  unfold HT.sIx
  simp
  omega
def sdG (R : Nat) (wt : Int → Int) (tc : Int → List Int) (u : Tr) : Nat → Int := match u with
  | .nil => fun _ => 0
  | .node l k r => sdf R (sw wt (.node l k r)) fun j => (tc k).getD j 0
def sdGs (R : Nat) (wt : Int → Int) (tc : Int → List Int) (u : Tr) : List Int := (List.range R).map (sdG R wt tc u)
def madeG (R : Nat) (wt : Int → Int) (tc : Int → List Int) (l r : Tr) : List Int := (List.range R).map fun j => minI (sums (sdG R wt tc l) (sdG R wt tc r) j)
theorem getD_range (cs : List Int) : (List.range cs.length).map (fun j => cs.getD j 0) = cs :=
  List.ext_getElem (by simp) fun i h1 h2 => by simp [List.getD_eq_getElem?_getD, List.getElem?_eq_getElem h2]
def SideOk (H : Hp) (bd td : Addr) (R : Nat) (wt : Int → Int) (tc : Int → List Int) (u : Tr) : Prop := u ≠ .nil → (∃ kb, H bd = some (.dK kb) ∧ valV kb (Sum.inl (top1 u) : Key) = some (.int (sw wt u))) ∧ (tc (top1 u)).length = R ∧ ∃ kt cc, H td = some (.dK kt) ∧ valV kt (Sum.inl (top1 u) : Key) = some (.ref cc) ∧ H cc = some (.tup ((tc (top1 u)).map V.int))
theorem snoc_of {cs : List Int} {n : Nat} (h : cs.length = n + 1) : cs = (List.range n).map (fun j => cs.getD j 0) ++ [cs.getD n 0] := by
  conv => lhs; rw [← getD_range cs, h, List.range_succ, List.map_append]
  rfl
theorem sdGs_cons {l r : Tr} {k : Int} {wt : Int → Int} {tc : Int → List Int} {n : Nat} (h : (tc k).length = n + 1) : sdGs (n + 1) wt tc (.node l k r) = (sw wt (.node l k r) + (tc k).getD n 0) :: (List.range n).map fun j => (tc k).getD j 0 := by
  unfold sdGs
  rw [List.range_succ_eq_map, List.map_cons, List.map_map]; rfl
theorem dget {H : Hp} {d : Addr} {kvs : List (Key × V)} {k : Int} {v : V} (e : H d = some (.dK kvs)) (h : valV kvs (Sum.inl k : Key) = some v) : DGet H d (.int k) (some v) := by
  have := DGet.k (k := (Sum.inl k : Key)) e
  rw [h] at this
  exact this
def spSS : Sp := fun vs H Q _ => ∃ (v : V) (u : Tr) (R : Nat) (bd td : Addr) (wt : Int → Int) (tc : Int → List Int), vs = [v, .int (R : Int), .ref bd, .ref td] ∧ Rep H v u.d ∧ 1 ≤ R ∧ R ≤ 100 ∧ SideOk H bd td R wt tc u ∧ ∀ a H', H a = none → Same H H' → H' a = some (.lst ((sdGs R wt tc u).map V.int)) → Q (.ref a) H'
theorem SideOk.mono {H H' : Hp} {bd td : Addr} {R : Nat} {wt : Int → Int} {tc : Int → List Int} {u : Tr} (h : SideOk H bd td R wt tc u) (s : Same H H') : SideOk H' bd td R wt tc u := fun hu => by
  obtain ⟨⟨kb, h1, h2⟩, hl, kt, cc, h3, h4, h5⟩ := h hu
  exact ⟨⟨kb, s _ _ h1, h2⟩, hl, kt, cc, s _ _ h3, h4, s _ _ h5⟩
def spSO : Sp := fun vs H Q _ => ∃ (a : Addr) (vl vr : V) (l r : Tr) (k : Int) (j R : Nat) (bd td : Addr) (wt : Int → Int) (tc : Int → List Int), vs = [.ref a, .int ((j + 1 : Nat) : Int), .int (R : Int), .ref bd, .ref td] ∧ H a = some (.tup [vl, .int k, vr]) ∧ Rep H vl l.d ∧ Rep H vr r.d ∧ j < R ∧ R ≤ 100 ∧ SideOk H bd td R wt tc l ∧ SideOk H bd td R wt tc r ∧
  ∀ b H', H b = none → Same H H' → H' b = some (.lst ((sums (sdG R wt tc l) (sdG R wt tc r) j).map V.int)) → Q (.ref b) H'
def spMade : Sp := fun vs H Q _ => ∃ (a : Addr) (vl vr : V) (l r : Tr) (k : Int) (R : Nat) (bd td : Addr) (wt : Int → Int) (tc : Int → List Int), vs = [.ref a, .int (R : Int), .ref bd, .ref td] ∧ H a = some (.tup [vl, .int k, vr]) ∧ Rep H vl l.d ∧ Rep H vr r.d ∧ 1 ≤ R ∧ R ≤ 100 ∧ SideOk H bd td R wt tc l ∧ SideOk H bd td R wt tc r ∧
  ∀ b H', H b = none → Same H H' → H' b = some (.tup ((madeG R wt tc l r).map V.int)) → Q (.ref b) H'
section
variable {P : Program} {w : World} {K : PySem.W.Frag} {mg : Str → Option Value} {base : Heap}
theorem ok_ss {f : Addr} (F : Fd K mg "side_sums" s_side_sums f) (T : Tx K mg) : Cal P w K mg base CX0 1 "side_sums" spSS := by
  refine F.cal sc_side_sums (fun _ _ _ _ _ _ us hl => L3.bind4 (fun _ _ _ _ => rfl) us hl) (fun vs H Q E h => ?_) (fun cdv A outer s H vs Q E hr h => ?_)
  · obtain ⟨v, u, R, bd, td, wt, tc, rfl, _⟩ := h; rfl
  · obtain ⟨v, u, R, bd, td, wt, tc, rfl, hv, hR, hR2, hs, q⟩ := h
    refine ⟨_, (bcons (sif (tcmp rIs (qv 0) qnon (nomark _)) (bone (sret (qop rMulL (qlst (qcons qint qnil)) (qv 1)))) bnil)
      (bcons (sset (i := 4) sc_side_sums.nd rfl (by first | exact Or.inl rfl | exact Or.inr rfl) (qdget hr (qv 3) (qix (xIx K) (qv 0) qint (fun _ _ => rfl)) (fun _ _ => rfl)))
      (bone (sret (qop rAdd (qlst (qcons (qop rAdd (qdget hr (qv 2) (qix (xIx K) (qv 0) qint (fun _ _ => rfl)) (fun _ _ => rfl)) (qix (xIx K) (qv 4) (qun rNeg qint) (fun _ _ => rfl))) qnil)) (qTy (fList K) rfl T.b_list bt_list (qcons (qslice (xSlT K) (qv 4) onone (osome (qun rNeg qint))) qnil))))))), ?_⟩
    cases u with
    | nil =>
      cases rep_nil hv
      refine ⟨_, rfl, rfl, _, rfl, ?_⟩
      refine ⟨(show 1 ≤ sizeLine by decide), fun l1 H1 n1 s1 e1 _ => ?_⟩
      refine ⟨_, rfl, l1, (R : Int), _, rfl, rfl, e1, by omega, by omega, sizeBig' (by simp; omega), fun l2 H2 n2 s2 e2 _ => ?_⟩
      refine q l2 H2 (s1.free n2) (s1.trans s2) ?_
      rw [e2, Int.toNat_natCast, ← zeros]
      rfl
    | node l k r =>
      obtain ⟨a, vl, vr, rfl, ea, hl, hr'⟩ := rep_node hv
      obtain ⟨⟨kb, h1', h1''⟩, hlc, kt, cc, h2', h2'', h3⟩ := hs (by intro z; cases z)
      have h2'' : valV kt (Sum.inl k : Key) = some (.ref cc) := h2''
      have h3 : H cc = some (.tup ((tc k).map V.int)) := h3
      have hlc : (tc k).length = R := hlc
      have h1 := dget h1' h1''
      have h2 := dget h2' h2''
      obtain ⟨n, rfl⟩ : ∃ n, R = n + 1 := ⟨R - 1, by omega⟩
      rw [snoc_of hlc, List.map_append, List.map_singleton] at h3
      refine ⟨_, rfl, rfl, _, rfl, ?_⟩
      refine ⟨_, rfl, _, rfl, a, _, 1, _, rfl, rfl, .inr (SqT.of ea), atI_nat (j := 1) rfl, td, .ref cc, rfl, h2, ?_⟩
      refine ⟨_, rfl, _, rfl, a, _, 1, _, rfl, rfl, .inr (SqT.of ea), atI_nat (j := 1) rfl, bd, _, rfl, h1, _, rfl, _, rfl, cc, _, _, _, rfl, rfl, .inr (SqT.of h3), L3.atI_last _ _, ?_⟩
      refine ⟨(show 1 ≤ sizeLine by decide), fun l1 H1 n1 s1 e1 _ => ?_⟩
      refine ⟨_, rfl, _, rfl, _, rfl, cc, _, rfl, SqT.of (s1 _ _ h3), cut_init_ne _ _, fun l2 H2 n2 s2 e2 _ => ?_⟩
      rw [cut_init] at e2
      refine ⟨l2, _, rfl, .inr (SqT.of e2), fun l3 H3 n3 s3 e3 _ => ?_⟩
      have s13 := s2.trans s3
      refine ⟨_, _, s13 _ _ e1, e3, sizeBig' (by simp; omega), fun l4 H4 n4 s4 e4 _ => ?_⟩
      refine q l4 H4 ((s1.trans s13).free n4) ((s1.trans s13).trans s4) ?_
      rw [e4, sdGs_cons hlc]; rfl
theorem ok_so {f : Addr} (F : Fd K mg "sums_over_shares" s_sums_over_shares f) (T : Tx K mg) (C_side_sums : Cal P w K mg base CX0 1 "side_sums" spSS) : Cal P w K mg base CX0 2 "sums_over_shares" spSO := by
  refine F.cal sc_sums_over_shares (fun _ _ _ _ _ _ us hl => L3.bind5 (fun _ _ _ _ _ => rfl) us hl) (fun vs H Q E h => ?_) (fun cdv A outer s H vs Q E hr h => ?_)
  · obtain ⟨a, vl, vr, l, r, k, j, R, bd, td, wt, tc, rfl, _⟩ := h; rfl
  · obtain ⟨a, vl, vr, l, r, k, j, R, bd, td, wt, tc, rfl, ea, hl, hr', hj, hR2, h1, h2, q⟩ := h
    refine ⟨_, (bcons (sset (i := 5) sc_sums_over_shares.nd rfl (by first | exact Or.inl rfl | exact Or.inr rfl) (qF C_side_sums (hr.mono (by omega)) pass0 rfl (qcons (qix (xIx K) (qv 0) qint (fun _ _ => rfl)) (qcons (qv 2) (qcons (qv 3) (qcons (qv 4) qnil))))))
      (bcons (sset (i := 6) sc_sums_over_shares.nd rfl (by first | exact Or.inl rfl | exact Or.inr rfl) (qF C_side_sums (hr.mono (by omega)) pass0 rfl (qcons (qix (xIx K) (qv 0) qint (fun _ _ => rfl)) (qcons (qv 2) (qcons (qv 3) (qcons (qv 4) qnil))))))
      (bone (sret (qcomp (sc := defScope s_sums_over_shares) (NX := ["knot", "most", "room", "burdens", "told", "left", "right"]) ["share", "left", "right", "most"] [none, some 5, some 6, some 1] rfl (irange1 rfl T.b_range (qcons (qv 1) qnil)) (fun _ _ _ => (gname (i := 0) (show (["share", "left", "right", "most"] : List Str).Nodup by decide +kernel) rfl (by first | exact Or.inl rfl | exact Or.inr rfl))) (fun _ _ _ => csnil) (fun _ _ _ => (qop rAdd (qix (xIx K) (qv 1) (qv 0) (fun _ _ => rfl)) (qix (xIx K) (qv 2) (qop rSub (qop rSub (qv 3) qint) (qv 0)) (fun _ _ => rfl)))) rfl rfl (by decide +kernel)))))), ?_⟩
    refine ⟨_, rfl, a, _, 0, _, rfl, rfl, .inr (SqT.of ea), atI_nat (j := 0) rfl, _, rfl, _, rfl, _, rfl, vl, l, R, bd, td, wt, tc, rfl, hl, by omega, hR2, h1, fun a1 H1 n1 s1 e1 => ?_⟩
    refine ⟨_, rfl, a, _, 2, _, rfl, rfl, .inr (SqT.of (s1 _ _ ea)), atI_nat (j := 2) rfl, _, rfl, _, rfl, _, rfl, vr, r, R, bd, td, wt, tc, rfl, hr'.mono s1, by omega, hR2, h2.mono s1, fun a2 H2 n2 s2 e2 => ?_⟩
    refine ⟨_, rfl, ((j + 1 : Nat) : Int), rfl, by omega, by omega, fun acc ha => ?_⟩
    refine comp_range (fun i ys σ H' => ∃ z, σ = [z, some (.ref a1), some (.ref a2), some (.int ((j + 1 : Nat) : Int))] ∧ Same H2 H' ∧ H' acc = some (.lst ys) ∧ ys = ((List.range i).map fun i => sdG R wt tc l i + sdG R wt tc r (j - i)).map V.int) ⟨none, rfl, same_new ha, upd_same, rfl⟩ ?_ ?_
    · rintro i ys σ G hi ⟨z, rfl, sG, eG, rfl⟩
      have hi' : i < j + 1 := by omega
      have g1 : atI ((sdGs R wt tc l).map V.int) (0 + (i : Int)) = some (.int (sdG R wt tc l i)) := by
        rw [Int.zero_add]
        exact atI_nat (by rw [List.getElem?_map]; unfold sdGs; rw [List.getElem?_map, List.getElem?_range (by omega)]; rfl)
      have g2 : atI ((sdGs R wt tc r).map V.int) (((j + 1 : Nat) : Int) - 1 - (0 + (i : Int))) = some (.int (sdG R wt tc r (j - i))) := by
        rw [show ((j + 1 : Nat) : Int) - 1 - (0 + (i : Int)) = ((j - i : Nat) : Int) by omega]
        exact atI_nat (by rw [List.getElem?_map]; unfold sdGs; rw [List.getElem?_map, List.getElem?_range (by omega)]; rfl)
      refine ⟨_, rfl, _, rfl, a1, _, _, _, rfl, rfl, .inl (SqL.of (sG _ _ (s2 _ _ e1))), g1, _, rfl, _, rfl, _, _, rfl, rfl, _, rfl, _, _, rfl, rfl, a2, _, _, _, rfl, rfl, .inl (SqL.of (sG _ _ e2)), g2, ?_⟩
      refine cpost eG (sizeBig (by simp; omega)) (by omega) ?_
      exact ⟨_, rfl, same_upd sG ha, upd_same, by rw [List.range_succ, List.map_append, List.map_append]; rfl⟩
    · rintro ys σ H3 ⟨z, rfl, s3, e3, rfl⟩
      rw [Int.toNat_natCast] at e3
      exact q acc H3 ((s1.trans s2).free ha) ((s1.trans s2).trans s3) e3
theorem ok_made {f : Addr} (F : Fd K mg "made_costs" s_made_costs f) (T : Tx K mg) (C_sums_over_shares : Cal P w K mg base CX0 2 "sums_over_shares" spSO) : Cal P w K mg base CX0 3 "made_costs" spMade := by
  refine F.cal sc_made_costs (fun _ _ _ _ _ _ us hl => L3.bind4 (fun _ _ _ _ => rfl) us hl) (fun vs H Q E h => ?_) (fun cdv A outer s H vs Q E hr h => ?_)
  · obtain ⟨a, vl, vr, l, r, k, R, bd, td, wt, tc, rfl, _⟩ := h; rfl
  · obtain ⟨a, vl, vr, l, r, k, R, bd, td, wt, tc, rfl, ea, hl, hr', hR, hR2, h1, h2, q⟩ := h
    refine ⟨_, (bone (sret (qTy (fTuple K) rfl T.b_tuple bt_tuple (qcons (qcomp (sc := defScope s_made_costs) (NX := ["knot", "room", "burdens", "told"]) ["most", "knot", "room", "burdens", "told"] [none, some 0, some 1, some 2, some 3] rfl (irange2 rfl T.b_range (qcons qint (qcons (qop rAdd (qv 1) qint) qnil))) (fun _ _ _ => (gname (i := 0) (show (["most", "knot", "room", "burdens", "told"] : List Str).Nodup by decide +kernel) rfl (by first | exact Or.inl rfl | exact Or.inr rfl))) (fun _ _ _ => csnil) (fun _ _ _ => (qB (fMin K) rfl T.b_min bt_min (qcons (qF C_sums_over_shares (hr.mono (by omega)) pass0 rfl (qcons (qv 1) (qcons (qv 0) (qcons (qv 2) (qcons (qv 3) (qcons (qv 4) qnil)))))) qnil))) rfl rfl (by decide +kernel)) qnil)))), ?_⟩
    refine ⟨_, rfl, 1, _, rfl, ⟨by omega, by omega, by omega, by omega⟩, fun acc ha => ?_⟩
    refine comp_range (fun i ys σ H' => ∃ z, σ = [z, some (.ref a), some (.int (R : Int)), some (.ref bd), some (.ref td)] ∧ Same H H' ∧ H' acc = some (.lst ys) ∧ ys = ((List.range i).map fun j => minI (sums (sdG R wt tc l) (sdG R wt tc r) j)).map V.int) ⟨none, rfl, same_new ha, upd_same, rfl⟩ ?_ ?_
    · rintro i ys σ G hi ⟨z, rfl, sG, eG, rfl⟩
      have hi' : i < R := by omega
      refine ⟨_, rfl, _, rfl, _, rfl, _, rfl, _, rfl, a, vl, vr, l, r, k, i, R, bd, td, wt, tc, ?_, sG _ _ ea, hl.mono sG, hr'.mono sG, hi', hR2, h1.mono sG, h2.mono sG, fun b G1 n1 s1 e1 => ?_⟩
      · rw [show (1 : Int) + (i : Int) = ((i + 1 : Nat) : Int) by omega]
      · refine ⟨b, _, rfl, SqL.of e1, by rw [sums_len]; omega, fun m hm1 hm2 => ?_⟩
        have hm : m = minI (sums (sdG R wt tc l) (sdG R wt tc r) i) := minI_is hm1 hm2
        subst hm
        refine cpost (s1 _ _ eG) (sizeBig (by simp; omega)) (by omega) ?_
        exact ⟨_, rfl, same_upd (sG.trans s1) ha, upd_same, by rw [List.range_succ, List.map_append, List.map_append]; rfl⟩
    · rintro ys σ H3 ⟨z, rfl, s3, e3, rfl⟩
      rw [show ((R : Int) + 1 - 1).toNat = R by omega] at e3
      refine ⟨acc, _, rfl, .inl ⟨SqL.of e3, fun b H4 n4 s4 e4 _ => ?_⟩⟩
      exact q b H4 (s3.free n4) (s3.trans s4) e4
end
end K18
namespace K18
open PySem L2 L3
def BdOk (wt : Int → Int) (t : Tr) (kb : List (Key × V)) : Prop := ∀ k ∈ t.keys, valV kb (Sum.inl k : Key) = some (.int (sw wt (at_ k t)))
def TdC (R : Nat) (wt : Int → Int) (t : Tr) (H : Hp) (kt : List (Key × V)) (ks : List Int) : Prop := ∀ k ∈ ks, ∃ c, valV kt (Sum.inl k : Key) = some (.ref c) ∧ H c = some (.tup ((costs R wt (at_ k t)).map V.int))
theorem TdC.mono {R : Nat} {wt : Int → Int} {t : Tr} {H H' : Hp} {kt : List (Key × V)} {ks : List Int} (h : TdC R wt t H kt ks) (s : Same H H') : TdC R wt t H' kt ks := fun k hk => by
  obtain ⟨c, h1, h2⟩ := h k hk
  exact ⟨c, h1, s _ _ h2⟩
def tcC (R : Nat) (wt : Int → Int) (t : Tr) : Int → List Int := fun k => costs R wt (at_ k t)
theorem sdG_eq {R : Nat} (hR : 1 ≤ R) {wt : Int → Int} {t u : Tr} (hu : u ≠ .nil → at_ (top1 u) t = u) {j : Nat} (hj : j < R) : sdG R wt (tcC R wt t) u j = sd R wt u j := by
  have get : ∀ i, i < R → ∀ v : Tr, (costs R wt v).getD i 0 = cT R wt v i := fun i hi v => by
    unfold costs
    rw [List.getD_eq_getElem?_getD, List.getElem?_map, List.getElem?_range hi]; rfl
  cases u with
  | nil => exact (sd_nil R wt j).symm
  | node l k r =>
    have h : at_ k t = .node l k r := hu (by intro z; cases z)
    have e : tcC R wt t k = costs R wt (.node l k r) := by unfold tcC; rw [h]
    cases j with
    | zero =>
      show sw wt (.node l k r) + (tcC R wt t k).getD (R - 1) 0 = sw wt (.node l k r) + cT R wt (.node l k r) (R - 1)
      rw [e, get _ (by omega)]
    | succ j =>
      show (tcC R wt t k).getD j 0 = cT R wt (.node l k r) j
      rw [e, get _ (by omega)]
theorem sums_eq {R : Nat} (hR : 1 ≤ R) {wt : Int → Int} {t l r : Tr} (hl : l ≠ .nil → at_ (top1 l) t = l) (hr : r ≠ .nil → at_ (top1 r) t = r) {j : Nat} (hj : j < R) : sums (sdG R wt (tcC R wt t) l) (sdG R wt (tcC R wt t) r) j = sums (sd R wt l) (sd R wt r) j := by
  unfold sums
  refine List.map_congr_left fun i hi => ?_
  rw [List.mem_range] at hi
  rw [sdG_eq hR hl (by omega), sdG_eq hR hr (by omega)]
theorem made_eq {R : Nat} (hR : 1 ≤ R) {wt : Int → Int} {t l r : Tr} {k : Int} (hl : l ≠ .nil → at_ (top1 l) t = l) (hr : r ≠ .nil → at_ (top1 r) t = r) : madeG R wt (tcC R wt t) l r = costs R wt (.node l k r) := by
  unfold madeG costs
  refine List.map_congr_left fun j hj => ?_
  rw [List.mem_range] at hj
  rw [sums_eq hR hl hr hj, cT_node]
theorem costs_len (R : Nat) (wt : Int → Int) (u : Tr) : (costs R wt u).length = R := by unfold costs; rw [List.length_map, List.length_range]
def spCosts : Sp := fun vs H Q _ => ∃ (v : V) (t : Tr) (R : Nat) (bd : Addr) (kb : List (Key × V)) (wt : Int → Int), vs = [v, .int (R : Int), .ref bd] ∧ Rep H v t.d ∧ t.ord none none ∧ t.ht < 80 ∧ t.size ≤ 1000 ∧ 1 ≤ R ∧ R ≤ 100 ∧ H bd = some (.dK kb) ∧ BdOk wt t kb ∧
  ∀ d H' kt, H d = none → Same H H' → H' d = some (.dK kt) → TdC R wt t H' kt t.keys → Q (.ref d) H'
theorem side_ok {R : Nat} {wt : Int → Int} {t : Tr} (ho : t.ord none none) {H : Hp} {bd td : Addr} {kb kt : List (Key × V)} {ks : List Int} (eb : H bd = some (.dK kb)) (et : H td = some (.dK kt)) (hb : BdOk wt t kb) (hc : TdC R wt t H kt ks) {u : Tr} (hu : u ≠ .nil → top1 u ∈ ks ∧ top1 u ∈ t.keys ∧ at_ (top1 u) t = u) : SideOk H bd td R wt (tcC R wt t) u := fun hn => by
  obtain ⟨h1, h2, h3⟩ := hu hn
  obtain ⟨c, c1, c2⟩ := hc _ h1
  have hb' := hb _ h2
  rw [h3] at hb'
  exact ⟨⟨kb, eb, hb'⟩, costs_len _ _ _, kt, c, et, c1, c2⟩
section
variable {P : Program} {w : World} {K : PySem.W.Frag} {mg : Str → Option Value} {base : Heap}
theorem ok_costs {f : Addr} (F : Fd K mg "costs_by_key" s_costs_by_key f) (T : Tx K mg) (C_with_kids : Cal P w K mg base CX0 80 "with_kids" (spWk 80)) (C_knot_at : Cal P w K mg base CX0 2 "knot_at" spAt) (C_made_costs : Cal P w K mg base CX0 3 "made_costs" spMade) : Cal P w K mg base CX0 82 "costs_by_key" spCosts := by
  refine F.cal sc_costs_by_key (fun _ _ _ _ _ _ us hl => L3.bind3 (fun _ _ _ => rfl) us hl) (fun vs H Q E h => ?_) (fun cdv A outer s H vs Q E hr h => ?_)
  · obtain ⟨v, t, R, bd, kb, wt, rfl, _⟩ := h; rfl
  · obtain ⟨v, t, R, bd, kb, wt, rfl, hv, ho, ht, hz, hR, hR2, ebd, hbd, q⟩ := h
    refine ⟨_, (bcons (sset (i := 3) sc_costs_by_key.nd rfl (by first | exact Or.inl rfl | exact Or.inr rfl) qdict)
      (bcons (sfor PassesOwn.never rfl (iseq K (qF C_with_kids (hr.mono (by omega)) pass0 rfl (qcons (qv 0) qnil))) (gtup (n := 2) K rfl (gscons (gname (i := 4) sc_costs_by_key.nd rfl (by first | exact Or.inl rfl | exact Or.inr rfl)) (gscons (gname (i := 5) sc_costs_by_key.nd rfl (by first | exact Or.inl rfl | exact Or.inr rfl)) gsnil)))
        (bone (sdput hr (qv 3) (qv 4) (qF C_made_costs (hr.mono (by omega)) pass0 rfl (qcons (qF C_knot_at (hr.mono (by omega)) pass0 rfl (qcons (qv 0) (qcons (qv 4) qnil))) (qcons (qv 1) (qcons (qv 2) (qcons (qv 3) qnil))))) rfl)))
      (bone (sret (qv 3))))), ?_⟩
    refine fun d H1 n1 s1 e1 _ => ?_
    refine ⟨_, rfl, v, t, rfl, hv.mono s1, ht, hz, fun r H2 ws s2 e2 g2 => ?_⟩
    have ed2 := s2 _ _ e1
    have hrd : r ≠ d := fun z => by rw [z, ed2] at e2; cases e2
    have gB : Reps (rm d H2) ws (t.wk.map kidD) := Reps.apart ed2 g2 (pures_map pure_kid _)
    have eB : rm d H2 r = some (.lst ws) := by rw [rm_ne hrd]; exact e2
    have hlw := g2.length
    rw [List.length_map, Tr.wk_length] at hlw
    have hdH : (rm d H2) d = none := rm_self
    have sHB : Same H (rm d H2) := fun b o hb => by rw [rm_ne (ne_of_none hb n1)]; exact s2 _ _ (s1 _ _ hb)
    refine ⟨r, rfl, .inl ⟨⟨_, SqL.of e2⟩, for_list (xs := ws) (fun i σ H' => ∃ z1 z2 kt, σ = [some v, some (.int (R : Int)), some (.ref bd), some (.ref d), z1, z2] ∧ Same (rm d H2) H' ∧ H' d = some (.dK kt) ∧ kt.length ≤ i ∧ TdC R wt t H' kt ((t.wk.take i).map (·.1)))
      ⟨none, none, [], rfl, rm_same, ed2, Nat.le_refl _, fun k hk => by cases hk⟩ (fun i σ H' _ hh => by obtain ⟨_, _, _, _, s', _⟩ := hh; exact SqL.of (s' _ _ eB)) ?_ ?_⟩⟩
    · rintro i x σ H3 hx ⟨z1, z2, kt, rfl, s3, ed, hkl, hT⟩
      have hi := (List.getElem?_eq_some_iff.mp hx).1
      obtain ⟨e, he, ge⟩ := reps_map gB hx
      obtain ⟨b, c, rfl, eb, ec⟩ := rep_kid ge
      have hem := List.mem_of_getElem? he
      refine ⟨b, _, rfl, SqT.of (s3 _ _ eb), rfl, _, _, rfl, _, _, rfl, rfl, ?_⟩
      have sH3 := sHB.trans s3
      refine ⟨_, rfl, _, rfl, v, t, e.1, rfl, hv.mono sH3, fun v' hv' => ?_⟩
      obtain ⟨l, r', hat, hkids⟩ := wk_at t none none ho e hem
      rw [hat] at hv'
      obtain ⟨a, vl, vr, rfl, ea, hl, hr'⟩ := rep_node hv'
      have pre := wk_pre t i e he
      have kid : ∀ u : Tr, (u = l ∨ u = r') → u ≠ .nil → top1 u ∈ (t.wk.take i).map (·.1) ∧ top1 u ∈ t.keys ∧ at_ (top1 u) t = u := fun u hu hn => by
        cases u with
        | nil => exact absurd rfl hn
        | node x y z =>
          have hmem : y ∈ e.2 := by
            rw [hkids]
            rcases hu with rfl | rfl
            · simp [Tr.key?]
            · simp [Tr.key?]
          have h1 := pre y hmem
          refine ⟨h1, ?_, ?_⟩
          · obtain ⟨e', he', z'⟩ := List.mem_map.mp h1
            exact (wk_keys t y).mp (List.mem_map.mpr ⟨e', List.mem_of_mem_take he', z'⟩)
          · exact at_in t none none ho e.1 l r' hat x y z (by rcases hu with h | h; exact .inl h.symm; exact .inr h.symm)
      have ebd3 := sH3 _ _ ebd
      refine ⟨_, rfl, _, rfl, _, rfl, a, vl, vr, l, r', e.1, R, bd, d, wt, tcC R wt t, rfl, ea, hl, hr', hR, hR2, side_ok ho ebd3 ed hbd hT (kid l (.inl rfl)), side_ok ho ebd3 ed hbd hT (kid r' (.inr rfl)), fun cb H4 n4 s4 e4 => ?_⟩
      rw [made_eq hR (k := e.1) (fun h => (kid l (.inl rfl) h).2.2) (fun h => (kid r' (.inr rfl) h).2.2)] at e4
      have ed4 := s4 _ _ ed
      refine ⟨_, rfl, _, rfl, d, _, rfl, DPut.k (k := (Sum.inl e.1 : Key)) ed4 (sizeBig (by omega)), ?_⟩
      refine ⟨_, _, _, rfl, same_upd (s3.trans s4) hdH, upd_same, ?_, fun k hk => ?_⟩
      · have := length_putK kt (Sum.inl e.1 : Key) (.ref cb); omega
      · have offd : ∀ {x : Addr} {ys : List V} {o : HO}, H4 x = some (.tup ys) → upd H4 d o x = some (.tup ys) := fun {x ys o} hx => by
          rw [upd_ne (fun z => by rw [z, ed4] at hx; cases hx)]; exact hx
        rw [valV_put]
        by_cases hke : k = e.1
        · subst hke
          refine ⟨cb, by rw [if_pos rfl], ?_⟩
          rw [hat]
          exact offd e4
        · rw [if_neg (fun z => hke (Sum.inl.inj z))]
          rw [List.take_add_one, he, List.map_append, List.mem_append] at hk
          rcases hk with hk | hk
          · obtain ⟨c', h1, h2⟩ := hT k hk
            exact ⟨c', h1, offd (s4 _ _ h2)⟩
          · exact absurd (by simpa using hk) hke
    · rintro σ H3 ⟨z1, z2, kt, rfl, s3, ed, hkl, hT⟩
      rw [List.take_of_length_le (by rw [Tr.wk_length]; omega)] at hT
      exact ⟨_, rfl, q d H3 kt n1 (sHB.trans s3) ed fun k hk => hT k ((wk_keys t k).mpr hk)⟩
end
end K18
namespace K18
open PySem L2 L3
def AllOk (H : Hp) (bd td : Addr) (R : Nat) (wt : Int → Int) (t : Tr) : Tr → Prop
  | .nil => True
  | .node l k r => (SideOk H bd td R wt (tcC R wt t) l ∧ SideOk H bd td R wt (tcC R wt t) r) ∧ ((l ≠ .nil → at_ (top1 l) t = l) ∧ (r ≠ .nil → at_ (top1 r) t = r)) ∧ AllOk H bd td R wt t l ∧ AllOk H bd td R wt t r
theorem AllOk.mono {H H' : Hp} {bd td : Addr} {R : Nat} {wt : Int → Int} {t : Tr} : ∀ {u : Tr}, AllOk H bd td R wt t u → Same H H' → AllOk H' bd td R wt t u
  | .nil, _, _ => trivial
  | .node l k r, h, s => ⟨⟨h.1.1.mono s, h.1.2.mono s⟩, h.2.1, h.2.2.1.mono s, h.2.2.2.mono s⟩
theorem at_mem {k : Int} : ∀ {t : Tr}, at_ k t ≠ .nil → k ∈ t.keys
  | .nil, h => absurd rfl h
  | .node l x r, h => by
    rw [at_] at h
    by_cases e : x = k
    · subst e; simp [Tr.keys]
    · rw [if_neg e] at h
      split at h
      · have := at_mem (t := l) h; simp [Tr.keys, this]
      · have := at_mem (t := r) h; simp [Tr.keys, this]
theorem all_ok {R : Nat} {wt : Int → Int} {t : Tr} (ho : t.ord none none) {H : Hp} {bd td : Addr} {kb kt : List (Key × V)} (eb : H bd = some (.dK kb)) (et : H td = some (.dK kt)) (hb : BdOk wt t kb) (hc : TdC R wt t H kt t.keys) : ∀ u : Tr, (u ≠ .nil → at_ (top1 u) t = u) → AllOk H bd td R wt t u
  | .nil, _ => trivial
  | .node l k r, h => by
    have hk : at_ k t = .node l k r := h (by intro z; cases z)
    have kid : ∀ u : Tr, (u = l ∨ u = r) → u ≠ .nil → at_ (top1 u) t = u := fun u hu hn => by
      cases u with
      | nil => exact absurd rfl hn
      | node x y z => exact at_in t none none ho k l r hk x y z (by rcases hu with h | h; exact .inl h.symm; exact .inr h.symm)
    have sub : ∀ u : Tr, (u = l ∨ u = r) → SideOk H bd td R wt (tcC R wt t) u := fun u hu => side_ok ho eb et hb hc fun hn => by
      have h1 := kid u hu hn
      have h2 : top1 u ∈ t.keys := at_mem (by rw [h1]; exact hn)
      exact ⟨h2, h2, h1⟩
    exact ⟨⟨sub l (.inl rfl), sub r (.inr rfl)⟩, ⟨kid l (.inl rfl), kid r (.inr rfl)⟩, all_ok ho eb et hb hc l (kid l (.inl rfl)), all_ok ho eb et hb hc r (kid r (.inr rfl))⟩
def sdT (R : Nat) (wt : Int → Int) (p : Tr × Nat) : List Int := (if 0 < p.2 then p.1.key? else []) ++ tb R wt p.1 (nx R p.2)
theorem tb_node (R : Nat) (wt : Int → Int) (l : Tr) (k : Int) (r : Tr) (j : Nat) : tb R wt (.node l k r) j = ([(l, ch R wt l r j), (r, j - ch R wt l r j)] : List (Tr × Nat)).flatMap (sdT R wt) := by
  simp [tb, sdT]
def spTb (n : Nat) : Sp := fun vs H Q _ => ∃ (v : V) (u t0 : Tr) (j R : Nat) (bd td : Addr) (wt : Int → Int), vs = [v, .int ((j + 1 : Nat) : Int), .int (R : Int), .ref bd, .ref td] ∧ Rep H v u.d ∧ u.ht < n ∧ u.size ≤ 1000 ∧ j < R ∧ R ≤ 100 ∧ AllOk H bd td R wt t0 u ∧
  ∀ b H', H b = none → Same H H' → H' b = some (.lst ((tb R wt u j).map V.int)) → Q (.ref b) H'
section
variable {P : Program} {w : World} {K : PySem.W.Frag} {mg : Str → Option Value} {base : Heap}
theorem ok_tb {f : Addr} (F : Fd K mg "tied_below" s_tied_below f) (T : Tx K mg) (C_sums_over_shares : Cal P w K mg base CX0 2 "sums_over_shares" spSO) : ∀ n, Cal P w K mg base CX0 (n + 3) "tied_below" (spTb n) := by
  intro n
  induction n with
  | zero => exact (F.none (ps := ["knot", "most", "room", "burdens", "told"]) (fun _ _ _ _ _ _ us hl => L3.bind5 (fun _ _ _ _ _ => rfl) us hl) fun vs H Q E hh => by obtain ⟨v, u, t0, j, R, bd, td, wt, _, _, h2, _⟩ := hh; omega).mono (by decide)
  | succ n C_tied_below =>
    refine F.cal sc_tied_below (fun _ _ _ _ _ _ us hl => L3.bind5 (fun _ _ _ _ _ => rfl) us hl) (fun vs H Q E h => ?_) (fun cdv A outer s H vs Q E hr h => ?_)
    · obtain ⟨v, u, t0, j, R, bd, td, wt, rfl, _⟩ := h; rfl
    · obtain ⟨v, u, t0, j, R, bd, td, wt, rfl, hv, hht, hz, hj, hR2, hall, q⟩ := h
      refine ⟨_, (bcons (sif (tcmp rIs (qv 0) qnon (nomark _)) (bone (sret (qlst qnil))) bnil)
      (bcons (sset (i := 5) sc_tied_below.nd rfl (by first | exact Or.inl rfl | exact Or.inr rfl) (qF C_sums_over_shares (hr.mono (by omega)) pass0 rfl (qcons (qv 0) (qcons (qv 1) (qcons (qv 2) (qcons (qv 3) (qcons (qv 4) qnil)))))))
      (bcons (sset (i := 6) sc_tied_below.nd rfl (by first | exact Or.inl rfl | exact Or.inr rfl) (qBm K PySem.F.plainAttrs_list PySem.F.slot_list_index PySem.F.type_list_index mIndex (qv 5) (qcons (qB (fMin K) rfl T.b_min bt_min (qcons (qv 5) qnil)) qnil)))
      (bcons (sset (i := 7) sc_tied_below.nd rfl (by first | exact Or.inl rfl | exact Or.inr rfl) (qlst qnil))
      (bcons (sfor PassesOwn.never rfl (iseq K (qtup (qcons (qtup (qcons (qix (xIx K) (qv 0) qint (fun _ _ => rfl)) (qcons (qv 6) qnil))) (qcons (qtup (qcons (qix (xIx K) (qv 0) qint (fun _ _ => rfl)) (qcons (qop rSub (qop rSub (qv 1) qint) (qv 6)) qnil))) qnil)))) (gtup (n := 2) K rfl (gscons (gname (i := 8) sc_tied_below.nd rfl (by first | exact Or.inl rfl | exact Or.inr rfl)) (gscons (gname (i := 9) sc_tied_below.nd rfl (by first | exact Or.inl rfl | exact Or.inr rfl)) gsnil)))
        (bcons (sif (QW.tst (wand (tcmp rIsNot (qv 8) qnon (nomark _)) (wand1 (tcmp rGt (qv 9) qint (nomark _))))) (bone (sexpr (qBm K PySem.F.plainAttrs_list PySem.F.slot_list_append PySem.F.type_list_append mAppend (qv 7) (qcons (qix (xIx K) (qv 8) qint (fun _ _ => rfl)) qnil)))) bnil)
        (bone (sexpr (qBm K PySem.F.plainAttrs_list PySem.F.slot_list_extend PySem.F.type_list_extend mExtend (qv 7) (qcons (qF C_tied_below (hr.mono (by omega)) pass0 rfl (qcons (qv 8) (qcons (qor K (qv 9) (qone (qv 2))) (qcons (qv 2) (qcons (qv 3) (qcons (qv 4) qnil)))))) qnil))))))
      (bone (sret (qv 7)))))))), ?_⟩
      cases u with
      | nil =>
        cases rep_nil hv
        exact ⟨_, rfl, rfl, _, rfl, (show 0 ≤ sizeLine by decide), fun r H1 n1 s1 e1 _ => q r H1 n1 s1 e1⟩
      | node l k r =>
        obtain ⟨a, vl, vr, rfl, ea, hl, hr'⟩ := rep_node hv
        obtain ⟨⟨a1, a2⟩, ⟨b1', b2'⟩, a3, a4⟩ := hall
        simp only [Tr.ht] at hht
        simp only [Tr.size] at hz
        refine ⟨_, rfl, rfl, _, rfl, ?_⟩
        refine ⟨_, rfl, _, rfl, _, rfl, _, rfl, _, rfl, a, vl, vr, l, r, k, j, R, bd, td, wt, tcC R wt t0, rfl, ea, hl, hr', hj, hR2, a1, a2, fun b1 H1 n1 s1 e1 => ?_⟩
        rw [sums_eq (by omega) b1' b2' hj] at e1
        refine ⟨_, rfl, .inl ⟨rfl, _, SqL.of e1⟩, _, rfl, b1, _, rfl, SqL.of e1, by rw [sums_len]; omega, fun m hm1 hm2 => ?_⟩
        have hm := minI_is hm1 hm2
        subst hm
        refine ⟨b1, _, _, rfl, rfl, e1, hm1, by rw [sums_len]; omega, ?_⟩
        have hch := ch_le R wt l r j
        rw [show (sums (sd R wt l) (sd R wt r) j).idxOf (minI (sums (sd R wt l) (sd R wt r) j)) = ch R wt l r j from rfl]
        refine ⟨(show 0 ≤ sizeLine by decide), fun l2 H2 n2 s2 e2 _ => ?_⟩
        have s02 := s1.trans s2
        refine ⟨_, rfl, a, _, 0, _, rfl, rfl, .inr (SqT.of (s02 _ _ ea)), atI_nat (j := 0) rfl, _, rfl, (show 2 ≤ sizeLine by decide), fun p1 H3 n3 s3 e3 _ => ?_⟩
        have s03 := s02.trans s3
        refine ⟨_, rfl, a, _, 2, _, rfl, rfl, .inr (SqT.of (s03 _ _ ea)), atI_nat (j := 2) rfl, _, rfl, _, _, rfl, rfl, _, rfl, _, _, rfl, rfl, (show 2 ≤ sizeLine by decide), fun p2 H4 n4 s4 e4 _ => ?_⟩
        have s04 := s03.trans s4
        refine ⟨(show 2 ≤ sizeLine by decide), fun p3 H5 n5 s5 e5 _ => ?_⟩
        have s05 := s04.trans s5
        have e25 : H5 l2 = some (.lst []) := s5 _ _ (s4 _ _ (s3 _ _ e2))
        have nl2 : H l2 = none := s1.free n2
        have sB : Same H (rm l2 H5) := fun x o hx => by rw [rm_ne (ne_of_none hx nl2)]; exact s05 _ _ hx
        have h3l : p3 ≠ l2 := fun z => by rw [z, s4 _ _ (s3 _ _ e2)] at n5; cases n5
        have h1l : p1 ≠ l2 := fun z => by rw [z, e2] at n3; cases n3
        have h2l : p2 ≠ l2 := fun z => by rw [z, s3 _ _ e2] at n4; cases n4
        have ep1 : rm l2 H5 p1 = some (.tup [vl, .int (ch R wt l r j : Int)]) := by rw [rm_ne h1l]; exact s5 _ _ (s4 _ _ e3)
        have ep2 : rm l2 H5 p2 = some (.tup [vr, .int (((j + 1 : Nat) : Int) - 1 - (ch R wt l r j : Int))]) := by rw [rm_ne h2l]; exact s5 _ _ e4
        rw [show ((j + 1 : Nat) : Int) - 1 - (ch R wt l r j : Int) = ((j - ch R wt l r j : Nat) : Int) by omega] at ep2
        have ep3 : rm l2 H5 p3 = some (.tup [.ref p1, .ref p2]) := by rw [rm_ne h3l]; exact e5
        have hpair : ∀ (i : Nat) (y : V), ([V.ref p1, V.ref p2] : List V)[i]? = some y → ∃ (p : Addr) (vu : V) (u : Tr) (s : Nat), y = .ref p ∧ rm l2 H5 p = some (.tup [vu, .int (s : Int)]) ∧ Rep (rm l2 H5) vu u.d ∧ ([(l, ch R wt l r j), (r, j - ch R wt l r j)] : List (Tr × Nat))[i]? = some (u, s) ∧ u.ht < n ∧ u.size ≤ 1000 ∧ s ≤ j ∧ AllOk (rm l2 H5) bd td R wt t0 u := fun i y hy => by
          match i, hy with
          | 0, hy =>
            have : y = .ref p1 := by simpa using hy.symm
            subst this
            exact ⟨p1, vl, l, _, rfl, ep1, hl.mono sB, rfl, by omega, by omega, hch, a3.mono sB⟩
          | 1, hy =>
            have : y = .ref p2 := by simpa using hy.symm
            subst this
            exact ⟨p2, vr, r, _, rfl, ep2, hr'.mono sB, rfl, by omega, by omega, by omega, a4.mono sB⟩
          | i + 2, hy => simp at hy
        refine ⟨p3, rfl, .inr ⟨⟨_, SqT.of e5⟩, for_tup (xs := [.ref p1, .ref p2]) (fun i σ H' => ∃ z8 z9, σ = [some (.ref a), some (.int ((j + 1 : Nat) : Int)), some (.int (R : Int)), some (.ref bd), some (.ref td), some (.ref b1), some (.int (ch R wt l r j : Int)), some (.ref l2), z8, z9] ∧ Same (rm l2 H5) H' ∧ H' l2 = some (.lst (((([(l, ch R wt l r j), (r, j - ch R wt l r j)] : List (Tr × Nat)).take i).flatMap (sdT R wt)).map V.int)))
          ⟨none, none, rfl, rm_same, e25⟩ (fun i σ H' _ hh => by obtain ⟨_, _, _, s', _⟩ := hh; exact SqT.of (s' _ _ ep3)) ?_ ?_⟩⟩
        · rintro i y σ H6 hy ⟨z8, z9, rfl, s6, e6⟩
          obtain ⟨p, vu, u, s, rfl, ep, hu, hus, hht', hz', hsj, hau⟩ := hpair i y hy
          have htk : (([(l, ch R wt l r j), (r, j - ch R wt l r j)] : List (Tr × Nat)).take (i + 1)).flatMap (sdT R wt) = (([(l, ch R wt l r j), (r, j - ch R wt l r j)] : List (Tr × Nat)).take i).flatMap (sdT R wt) ++ sdT R wt (u, s) := by
            rw [List.take_add_one, hus, List.flatMap_append]; simp
          have hlen : ((([(l, ch R wt l r j), (r, j - ch R wt l r j)] : List (Tr × Nat)).take i).flatMap (sdT R wt)).length ≤ 5000 := by
            have hs : ∀ ps : List (Tr × Nat), (∀ p ∈ ps, p.1.size ≤ 1000) → (ps.flatMap (sdT R wt)).length ≤ ps.length * 1001 := fun ps h => by
              induction ps with
              | nil => simp
              | cons p ps ih =>
                have h1 := ih fun q hq => h q (.tail _ hq)
                have h2 := tb_len R wt p.1 (nx R p.2)
                have h3 := h p (.head _)
                have h4 : (if 0 < p.2 then p.1.key? else []).length ≤ 1 := by
                  have := key_short p.1
                  split
                  · exact this
                  · simp
                rw [List.flatMap_cons, List.length_append, List.length_cons]
                have h5 : (sdT R wt p).length = (if 0 < p.2 then p.1.key? else []).length + (tb R wt p.1 (nx R p.2)).length := List.length_append
                omega
            have h1 := hs (([(l, ch R wt l r j), (r, j - ch R wt l r j)] : List (Tr × Nat)).take i) fun p hp => by
              have := List.mem_of_mem_take hp
              simp only [List.mem_cons, List.not_mem_nil, or_false] at this
              rcases this with rfl | rfl
              · show l.size ≤ 1000; omega
              · show r.size ≤ 1000; omega
            rw [List.length_take] at h1
            have : min i ([(l, ch R wt l r j), (r, j - ch R wt l r j)] : List (Tr × Nat)).length ≤ 2 := Nat.min_le_right _ _
            omega
          generalize (([(l, ch R wt l r j), (r, j - ch R wt l r j)] : List (Tr × Nat)).take i).flatMap (sdT R wt) = A at *
          refine ⟨p, _, rfl, SqT.of (s6 _ _ ep), rfl, _, _, rfl, _, _, rfl, rfl, ?_⟩
          apply join (fun σ' H' => σ' = [some (.ref a), some (.int ((j + 1 : Nat) : Int)), some (.int (R : Int)), some (.ref bd), some (.ref td), some (.ref b1), some (.int (ch R wt l r j : Int)), some (.ref l2), some vu, some (.int (s : Int))] ∧ Same (rm l2 H5) H' ∧ H' l2 = some (.lst ((A ++ (if 0 < s then u.key? else [])).map V.int)))
          case h2 =>
            intro hj'
            rcases side_step (hu.mono s6) with ⟨hvn, hk⟩ | ⟨c, cl, cr, kk, hvc, ec, hk⟩
            · have hd1 : (!decide (vu = V.non)) = false := by rw [hvn]; rfl
              refine ⟨_, rfl, rfl, _, rfl, ?_⟩
              rw [hd1]
              refine iteF (iteF ?_)
              refine hj' _ _ ⟨rfl, s6, ?_⟩
              rw [hk, ite_self, List.append_nil]; exact e6
            · have hd1 : (!decide (vu = V.non)) = true := by rw [hvc]; rfl
              refine ⟨_, rfl, rfl, _, rfl, ?_⟩
              rw [hd1]
              refine iteT ?_
              refine ⟨_, rfl, _, _, rfl, rfl, _, rfl, ?_⟩
              by_cases hs : 0 < s
              · rw [decide_eq_true (show (0 : Int) < (s : Int) by omega)]
                refine iteT ?_
                refine ⟨_, rfl, .inl ⟨rfl, _, SqL.of e6⟩, _, rfl, c, _, 1, _, hvc, rfl, .inr (SqT.of ec), atI_nat (j := 1) rfl, l2, _, _, rfl, rfl, e6, sizeBig (by rw [List.length_map]; omega), ?_⟩
                refine hj' _ _ ⟨rfl, same_upd s6 rm_self, ?_⟩
                rw [upd_same, if_pos hs, hk, List.map_append]; rfl
              · rw [decide_eq_false (show ¬ (0 : Int) < (s : Int) by omega)]
                refine iteF ?_
                refine hj' _ _ ⟨rfl, s6, ?_⟩
                rw [if_neg hs, List.append_nil]; exact e6
          case h1 =>
            rintro σ7 H7 ⟨rfl, s7, e7⟩
            have hnR : nx R s < R := by unfold nx; split <;> omega
            have hkl : (if 0 < s then u.key? else []).length ≤ 1 := by
              have := key_short u
              split
              · exact this
              · simp
            have htl := tb_len R wt u (nx R s)
            have htk' : (A ++ (if 0 < s then u.key? else [])).map V.int ++ (tb R wt u (nx R s)).map V.int = ((([(l, ch R wt l r j), (r, j - ch R wt l r j)] : List (Tr × Nat)).take (i + 1)).flatMap (sdT R wt)).map V.int := by
              rw [htk, ← List.map_append, List.append_assoc]; rfl
            by_cases hs : s = 0
            · have hk0 : ((s : Int) != 0) = false := by rw [hs]; rfl
              have hnx : (R : Int) = ((nx R s + 1 : Nat) : Int) := by unfold nx; rw [if_pos hs]; omega
              refine ⟨_, rfl, .inl ⟨rfl, _, SqL.of e7⟩, _, rfl, _, rfl, _, rfl, ?_⟩
              rw [hk0]
              refine iteF ?_
              refine ⟨_, rfl, _, rfl, _, rfl, _, rfl, vu, u, t0, nx R s, R, bd, td, wt, by rw [← hnx], hu.mono s7, hht', hz', hnR, hR2, hau.mono s7, fun b8 H8 n8 s8 e8 => ?_⟩
              refine ⟨l2, b8, _, _, rfl, rfl, s8 _ _ e7, e8, sizeBig' (by rw [List.length_map, List.length_map, List.length_append]; omega), ?_⟩
              exact ⟨_, _, rfl, same_upd (s7.trans s8) rm_self, by rw [upd_same, htk']⟩
            · have hk0 : ((s : Int) != 0) = true := by simpa using hs
              have hnx : (s : Int) = ((nx R s + 1 : Nat) : Int) := by unfold nx; rw [if_neg hs]; omega
              refine ⟨_, rfl, .inl ⟨rfl, _, SqL.of e7⟩, _, rfl, _, rfl, _, rfl, ?_⟩
              rw [hk0]
              refine iteT ?_
              refine ⟨_, rfl, _, rfl, _, rfl, vu, u, t0, nx R s, R, bd, td, wt, by rw [← hnx], hu.mono s7, hht', hz', hnR, hR2, hau.mono s7, fun b8 H8 n8 s8 e8 => ?_⟩
              refine ⟨l2, b8, _, _, rfl, rfl, s8 _ _ e7, e8, sizeBig' (by rw [List.length_map, List.length_map, List.length_append]; omega), ?_⟩
              exact ⟨_, _, rfl, same_upd (s7.trans s8) rm_self, by rw [upd_same, htk']⟩
        · rintro σ H6 ⟨z8, z9, rfl, s6, e6⟩
          refine ⟨_, rfl, q l2 H6 nl2 (sB.trans s6) ?_⟩
          rw [tb_node]
          exact e6
end
end K18
namespace K18
open PySem L2 L3
def spLeast : Sp := fun vs H Q _ => ∃ (v : V) (t : Tr) (R : Nat) (bd td : Addr) (wt : Int → Int) (tc : Int → List Int), vs = [v, .ref bd, .ref td] ∧ Rep H v t.d ∧ 1 ≤ R ∧ SideOk H bd td R wt tc t ∧ Q (.int (sdG R wt tc t 0)) H
def rowD (R : Nat) (wt : Int → Int) (t : Tr) (k : Int) : D := .tup [.int k, .tup ((costs R wt (at_ k t)).map D.int)]
def spCheap : Sp := fun vs H Q _ => ∃ (v : V) (t : Tr) (R : Nat) (wb : Addr) (wt : Int → Int), vs = [v, .int (R : Int), .ref wb] ∧ Rep H v t.d ∧ t.ord none none ∧ t.ht < 80 ∧ t.size ≤ 60 ∧ t.keys.Nodup ∧ 1 ≤ R ∧ R ≤ 100 ∧ H wb = some (.lst ((t.keys.map wt).map V.int)) ∧
  ∀ b H' fb bs L cb ws, H b = none → Same H H' → H' b = some (.tup [.int (least R wt t), .ref fb, .ref cb]) → H fb = none → H' fb = some (.lst (bs.map V.ref)) → Pgs H' bs L → (∀ b ∈ bs, H b = none ∧ b ≠ fb) → bs.Nodup → L.Perm (((en (tb R wt t (R - 1)) t).map (·.2)).map so) → LexS L → H cb = none → cb ≠ fb → cb ∉ bs → H' cb = some (.lst ws) → Reps H' ws (t.keys.map (rowD R wt t)) → Q (.ref b) H'
section
variable {P : Program} {w : World} {K : PySem.W.Frag} {mg : Str → Option Value} {base : Heap}
theorem ok_least {f : Addr} (F : Fd K mg "least_cost" s_least_cost f) (T : Tx K mg) : Cal P w K mg base CX0 1 "least_cost" spLeast := by
  refine F.cal sc_least_cost (fun _ _ _ _ _ _ us hl => L3.bind3 (fun _ _ _ => rfl) us hl) (fun vs H Q E h => ?_) (fun cdv A outer s H vs Q E hr h => ?_)
  · obtain ⟨v, t, R, bd, td, wt, tc, rfl, _⟩ := h; rfl
  · obtain ⟨v, t, R, bd, td, wt, tc, rfl, hv, hR, hs, q⟩ := h
    refine ⟨_, (bone (sret (qif (tcmp rIs (qv 0) qnon (nomark _)) qint (qop rAdd (qdget hr (qv 1) (qix (xIx K) (qv 0) qint (fun _ _ => rfl)) (fun _ _ => rfl)) (qix (xIx K) (qdget hr (qv 2) (qix (xIx K) (qv 0) qint (fun _ _ => rfl)) (fun _ _ => rfl)) (qun rNeg qint) (fun _ _ => rfl)))))), ?_⟩
    cases t with
    | nil =>
      cases rep_nil hv
      exact ⟨_, rfl, rfl, _, rfl, q⟩
    | node l k r =>
      obtain ⟨a, vl, vr, rfl, ea, hl, hr'⟩ := rep_node hv
      obtain ⟨⟨kb, h1', h1''⟩, hlc, kt, cc, h2', h2'', h3⟩ := hs (by intro z; cases z)
      have h2'' : valV kt (Sum.inl k : Key) = some (.ref cc) := h2''
      have h3 : H cc = some (.tup ((tc k).map V.int)) := h3
      have hlc : (tc k).length = R := hlc
      have h1 := dget h1' h1''
      have h2 := dget h2' h2''
      obtain ⟨n, rfl⟩ : ∃ n, R = n + 1 := ⟨R - 1, by omega⟩
      rw [snoc_of hlc, List.map_append, List.map_singleton] at h3
      refine ⟨_, rfl, rfl, _, rfl, ?_⟩
      exact ⟨_, rfl, _, rfl, a, _, 1, _, rfl, rfl, .inr (SqT.of ea), atI_nat (j := 1) rfl, bd, _, rfl, h1, _, rfl, _, rfl, a, _, 1, _, rfl, rfl, .inr (SqT.of ea), atI_nat (j := 1) rfl, td, .ref cc, rfl, h2, _, rfl, cc, _, _, _, rfl, rfl, .inr (SqT.of h3), L3.atI_last _ _, q⟩
theorem ok_cheap {f : Addr} (F : Fd K mg "cheapest" s_cheapest f) (T : Tx K mg) (C_burdens_by_key : Cal P w K mg base CX0 82 "burdens_by_key" spBurs) (C_costs_by_key : Cal P w K mg base CX0 82 "costs_by_key" spCosts) (C_pages_tied : Cal P w K mg base CX0 82 "pages_tied" spPages) (C_tied_below : Cal P w K mg base CX0 83 "tied_below" (spTb 80)) (C_least_cost : Cal P w K mg base CX0 1 "least_cost" spLeast) (C_keys_of : Cal P w K mg base CX0 80 "keys_of" (spKof 80)) : Cal P w K mg base CX0 85 "cheapest" spCheap := by
  refine F.cal sc_cheapest (fun _ _ _ _ _ _ us hl => L3.bind3 (fun _ _ _ => rfl) us hl) (fun vs H Q E h => ?_) (fun cdv A outer s H vs Q E hr h => ?_)
  · obtain ⟨v, t, R, wb, wt, rfl, _⟩ := h; rfl
  · obtain ⟨v, t, R, wb, wt, rfl, hv, ho, ht, hz, hnd, hR, hR2, ewb, q⟩ := h
    refine ⟨_, (bcons (sset (i := 3) sc_cheapest.nd rfl (by first | exact Or.inl rfl | exact Or.inr rfl) (qF C_burdens_by_key (hr.mono (by omega)) pass0 rfl (qcons (qv 0) (qcons (qv 2) qnil))))
      (bcons (sset (i := 4) sc_cheapest.nd rfl (by first | exact Or.inl rfl | exact Or.inr rfl) (qF C_costs_by_key (hr.mono (by omega)) pass0 rfl (qcons (qv 0) (qcons (qv 1) (qcons (qv 3) qnil)))))
      (bcons (sset (i := 5) sc_cheapest.nd rfl (by first | exact Or.inl rfl | exact Or.inr rfl) (qF C_pages_tied (hr.mono (by omega)) pass0 rfl (qcons (qv 0) (qcons (qF C_tied_below (hr.mono (by omega)) pass0 rfl (qcons (qv 0) (qcons (qv 1) (qcons (qv 1) (qcons (qv 3) (qcons (qv 4) qnil)))))) qnil))))
      (bone (sret (qtup (qcons (qF C_least_cost (hr.mono (by omega)) pass0 rfl (qcons (qv 0) (qcons (qv 3) (qcons (qv 4) qnil)))) (qcons (qv 5) (qcons (qcomp (sc := defScope s_cheapest) (NX := ["tree", "room", "weights", "burdens", "told", "layout"]) ["key", "told"] [none, some 4] rfl (iseq K (qF C_keys_of (hr.mono (by omega)) pass0 rfl (qcons (qv 0) qnil))) (fun _ _ _ => (gname (i := 0) (show (["key", "told"] : List Str).Nodup by decide +kernel) rfl (by first | exact Or.inl rfl | exact Or.inr rfl))) (fun _ _ _ => csnil) (fun _ _ _ => (qtup (qcons (qv 0) (qcons (qdget hr (qv 1) (qv 0) (fun _ _ => rfl)) qnil)))) rfl rfl (by decide +kernel)) qnil))))))))), ?_⟩
    refine ⟨_, rfl, _, rfl, v, t, wb, wt, rfl, hv, ho, ht, by omega, ewb, fun bd H1 kb n1 s1 e1 hb1 => ?_⟩
    refine ⟨_, rfl, _, rfl, _, rfl, v, t, R, bd, kb, wt, rfl, hv.mono s1, ho, ht, by omega, hR, hR2, e1, hb1, fun td H2 kt n2 s2 e2 ht2 => ?_⟩
    have s02 := s1.trans s2
    have top : t ≠ .nil → at_ (top1 t) t = t := fun hn => by
      cases t with
      | nil => exact absurd rfl hn
      | node l k r => exact at_self
    have hall := all_ok ho (s2 _ _ e1) e2 hb1 ht2 t top
    have hsd : SideOk H2 bd td R wt (tcC R wt t) t := side_ok ho (s2 _ _ e1) e2 hb1 ht2 fun hn => by
      have h2 : top1 t ∈ t.keys := at_mem (by rw [top hn]; exact hn)
      exact ⟨h2, h2, top hn⟩
    refine ⟨_, rfl, _, rfl, _, rfl, _, rfl, _, rfl, _, rfl, v, t, t, R - 1, R, bd, td, wt, by rw [show R - 1 + 1 = R by omega], hv.mono s02, ht, by omega, by omega, hR2, hall, fun tb1 H3 n3 s3 e3 => ?_⟩
    have s03 := s02.trans s3
    refine ⟨v, t, tb1, _, rfl, hv.mono s03, ht, hz, hnd, e3, fun fb H4 bs L n4 s4 e4 p4 hb4 nd4 pm4 lx4 => ?_⟩
    have s04 := s03.trans s4
    have s24 := s3.trans s4
    refine ⟨_, rfl, _, rfl, _, rfl, v, t, R, bd, td, wt, tcC R wt t, rfl, hv.mono s04, hR, hsd.mono s24, ?_⟩
    rw [show sdG R wt (tcC R wt t) t 0 = least R wt t from (sdG_eq hR top (by omega)).trans rfl]
    refine ⟨_, rfl, _, rfl, v, t, rfl, hv.mono s04, ht, by omega, fun kb5 H5 n5 s5 e5 => ?_⟩
    have hkl := Tr.keys_length t
    refine ⟨kb5, rfl, .inl ⟨⟨_, SqL.of e5⟩, fun acc ha => ?_⟩⟩
    have s45 := s5
    refine comp_list (xs := t.keys.map V.int) (fun i ys σ H' => ∃ z, σ = [z, some (.ref td)] ∧ Same H5 H' ∧ H' acc = some (.lst ys) ∧ Reps (rm acc H') ys ((t.keys.take i).map (rowD R wt t))) ⟨none, rfl, same_new ha, upd_same, .nil⟩ (fun i ys σ H' hh => by obtain ⟨_, _, s', _⟩ := hh; exact SqL.of (s' _ _ e5)) ?_ ?_
    · rintro i ys y σ G hy hi ⟨z, rfl, sG, eG, gG⟩
      rw [List.getElem?_map] at hy
      obtain ⟨k, hk, rfl⟩ := Option.map_eq_some_iff.mp hy
      have hkm := List.mem_of_getElem? hk
      obtain ⟨cc, hc1, hc2⟩ := ht2 k hkm
      have s2G := (s24.trans s5).trans sG
      have hgl := gG.length
      rw [List.length_map, List.length_take] at hgl
      refine ⟨_, rfl, _, rfl, _, rfl, td, .ref cc, rfl, dget (s2G _ _ e2) hc1, (show 2 ≤ sizeLine by decide), fun pr G1 n1' s1' e1' _ => ?_⟩
      have hpa : pr ≠ acc := fun z => by rw [z, eG] at n1'; cases n1'
      have hca : cc ≠ acc := fun z => by rw [z] at hc2; have := s24.trans s5 _ _ hc2; rw [ha] at this; cases this
      refine cpost (s1' _ _ eG) (sizeBig (by omega)) hi ?_
      refine ⟨_, rfl, same_upd (sG.trans s1') ha, upd_same, ?_⟩
      rw [List.take_add_one, hk, List.map_append, rm_upd]
      refine (gG.mono (rm_of' s1')).append (.cons ?_ .nil)
      refine .tup (by rw [rm_ne hpa]; exact e1') (.cons (.int _) (.cons ?_ .nil))
      exact .tup (by rw [rm_ne hca]; exact s1' _ _ (s2G _ _ hc2)) (Reps.ints _)
    · rintro ys σ H6 ⟨z, rfl, s6, e6, g6⟩
      rw [List.length_map, List.take_length] at g6
      refine ⟨(show 3 ≤ sizeLine by decide), fun b7 H7 n7 s7 e7 _ => ?_⟩
      have s07 := ((s04.trans s5).trans s6).trans s7
      have s47 := (s5.trans s6).trans s7
      refine q b7 H7 fb bs L acc ys (((s04.trans s5).trans s6).free n7) s07 e7 (s03.free n4) (s47 _ _ e4) (p4.mono s47) (fun b hb => ⟨s03.free (hb4 b hb).1, (hb4 b hb).2⟩) nd4 pm4 lx4 ((s04.trans s5).free ha) (fun z => ?_) (fun z => ?_) (s7 _ _ e6) (g6.mono (rm_same.trans s7))
      · rw [z, s5 _ _ e4] at ha; cases ha
      · obtain ⟨p, _, hp⟩ := p4.of z
        rw [s5 _ _ hp] at ha; cases ha
end
end K18
namespace K18
open PySem L2 L3
def never (cs : List Int) : Bool := (List.zipWith (fun a b => decide (b ≤ a)) cs (cs.drop 1)).all id
def atMost (cs ms : List Int) : Bool := (List.zipWith (fun a b => decide (a ≤ b)) cs ms).all id
theorem zip_all {f : Int → Int → Bool} {xs ys : List Int} : (List.zipWith f xs ys).all id = true ↔ ∀ (i : Nat) (x y : Int), xs[i]? = some x → ys[i]? = some y → f x y = true := by
  rw [List.all_eq_true]
  constructor
  · intro h i x y hx hy
    exact h _ (List.mem_of_getElem? (i := i) (by rw [List.getElem?_zipWith, hx, hy]))
  · intro h b hb
    obtain ⟨i, hi⟩ := List.getElem?_of_mem hb
    rw [List.getElem?_zipWith] at hi
    cases hx : xs[i]? with
    | none => rw [hx] at hi; cases hi
    | some x =>
      cases hy : ys[i]? with
      | none => rw [hx, hy] at hi; cases hi
      | some y =>
        rw [hx, hy] at hi
        cases hi
        exact h i x y hx hy
theorem never_iff {cs : List Int} : never cs = true ↔ ∀ j, j + 1 < cs.length → cs.getD (j + 1) 0 ≤ cs.getD j 0 := by
  unfold never
  rw [zip_all]
  constructor
  · intro h j hj
    have := h j (cs[j]'(by omega)) (cs[j + 1]'hj) (List.getElem?_eq_getElem _) (by rw [List.getElem?_drop, Nat.add_comm 1 j]; exact List.getElem?_eq_getElem _)
    rw [List.getD_eq_getElem?_getD, List.getD_eq_getElem?_getD, List.getElem?_eq_getElem hj, List.getElem?_eq_getElem (by omega)]
    exact of_decide_eq_true this
  · intro h i x y hx hy
    rw [List.getElem?_drop, Nat.add_comm 1 i] at hy
    have hj := (List.getElem?_eq_some_iff.mp hy).1
    have := h i hj
    rw [List.getD_eq_getElem?_getD, List.getD_eq_getElem?_getD, hx, hy] at this
    exact decide_eq_true this
end K18
namespace K18
open PySem L2 L3
def rwD (e : Int × List Int) : D := .tup [.int e.1, .tup (e.2.map D.int)]
theorem rep_row {H : Hp} {v : V} {e : Int × List Int} (h : Rep H v (rwD e)) : ∃ b c, v = .ref b ∧ H b = some (.tup [.int e.1, .ref c]) ∧ H c = some (.tup (e.2.map V.int)) := by
  obtain ⟨a, vs, rfl, ea, rs⟩ := rep_tup h
  cases rs with
  | cons h1 rs =>
    cases rs with
    | cons h2 rs =>
      cases rs
      cases h1
      obtain ⟨c, ws, rfl, ec, rc⟩ := rep_tup h2
      exact ⟨a, c, rfl, ea, by rw [ec, reps_ints rc]⟩
def spNever : Sp := fun vs H Q _ => ∃ (c : Addr) (cs : List Int), vs = [.ref c] ∧ H c = some (.tup (cs.map V.int)) ∧ 1 ≤ cs.length ∧ cs.length ≤ 100 ∧ ∀ H', Same H H' → Q (.bl (never cs)) H'
def spAtM : Sp := fun vs H Q _ => ∃ (c d : Addr) (cs ms : List Int), vs = [.ref c, .ref d] ∧ H c = some (.tup (cs.map V.int)) ∧ H d = some (.tup (ms.map V.int)) ∧ cs.length ≤ 100 ∧ ∀ H', Same H H' → Q (.bl (atMost cs ms)) H'
theorem cut_tail (xs : List V) : cutV xs (some 1) none = xs.drop 1 := cut_lo xs 1
section
variable {P : Program} {w : World} {K : PySem.W.Frag} {mg : Str → Option Value} {base : Heap}
theorem ok_never {f : Addr} (F : Fd K mg "never_rises" s_never_rises f) (T : Tx K mg) : Cal P w K mg base CX0 1 "never_rises" spNever := by
  refine F.cal sc_never_rises (fun _ _ _ _ _ _ us hl => L3.bind1 (fun _ => rfl) us hl) (fun vs H Q E h => ?_) (fun cdv A outer s H vs Q E hr h => ?_)
  · obtain ⟨c, cs, rfl, _⟩ := h; rfl
  · obtain ⟨c, cs, rfl, ec, hl1, hl, q⟩ := h
    refine ⟨_, (bone (sret (qB (fAll K) rfl T.b_all bt_all (qcons (qcomp (sc := defScope s_never_rises) (NX := ["costs"]) ["ahead", "after"] [none, none] rfl (izipT K rfl T.b_zip (qcons (qv 0) (qcons (qslice (xSlT K) (qv 0) (osome qint) onone) qnil))) (fun _ _ _ => (gtup (n := 2) K rfl (gscons (gname (i := 0) (show (["ahead", "after"] : List Str).Nodup by decide +kernel) rfl (by first | exact Or.inl rfl | exact Or.inr rfl)) (gscons (gname (i := 1) (show (["ahead", "after"] : List Str).Nodup by decide +kernel) rfl (by first | exact Or.inl rfl | exact Or.inr rfl)) gsnil)))) (fun _ _ _ => csnil) (fun _ _ _ => (qcmp rLe (qv 1) (qv 0) (nomark _))) rfl rfl (by decide +kernel)) qnil)))), ?_⟩
    have hne : ¬ (HT.sIx (cs.map V.int).length 0 (some 1) = 0 ∧ HT.sIx (cs.map V.int).length (cs.map V.int).length none = (cs.map V.int).length) := by
      rw [List.length_map]
      rintro ⟨z, _⟩
      have h1 : HT.sIx cs.length 0 (some 1) = min 1 cs.length := HT.sIx_nat cs.length 0 1
      omega
    refine ⟨_, rfl, _, rfl, _, rfl, c, _, rfl, SqT.of ec, hne, fun d H1 n1 s1 e1 _ => ?_⟩
    rw [cut_tail, ← List.map_drop] at e1
    refine ⟨c, d, _, _, rfl, SqT.of (s1 _ _ ec), SqT.of e1, fun acc ha => ?_⟩
    refine comp_zipT (xs := cs.map V.int) (ys := (cs.drop 1).map V.int) (n := (List.zipWith (fun a b => decide (b ≤ a)) cs (cs.drop 1)).length) (by rw [List.length_zipWith, List.length_map, List.length_map]) (fun i ys σ H' => ∃ z1 z2, σ = [z1, z2] ∧ Same H1 H' ∧ H' acc = some (.lst ys) ∧ ys = ((List.zipWith (fun a b => decide (b ≤ a)) cs (cs.drop 1)).take i).map V.bl) ⟨none, none, rfl, same_new ha, upd_same, rfl⟩ (fun i ys σ H' ⟨_, _, _, s', _⟩ => ⟨SqT.of (s' _ _ (s1 _ _ ec)), SqT.of (s' _ _ e1)⟩) ?_ ?_
    · rintro i ys x y σ G T1 hx hy hi ⟨z1, z2, rfl, sG, eG, rfl⟩ hT
      rw [List.getElem?_map] at hx hy
      obtain ⟨n, hn, rfl⟩ := Option.map_eq_some_iff.mp hx
      obtain ⟨m, hm, rfl⟩ := Option.map_eq_some_iff.mp hy
      have haT : acc ≠ T1 := fun z => by rw [z, hT] at eG; cases eG
      refine ⟨T1, _, rfl, SqT.of upd_same, rfl, _, _, rfl, _, _, rfl, rfl, ?_⟩
      have s3 : Same H1 (upd G T1 (.tup [.int n, .int m])) := same_upd sG (sG.free hT)
      have e3 : upd G T1 (.tup [.int n, .int m]) acc = some (.lst (((List.zipWith (fun a b => decide (b ≤ a)) cs (cs.drop 1)).take i).map V.bl)) := by rw [upd_ne haT]; exact eG
      generalize upd G T1 (.tup [.int n, .int m]) = G3 at *
      have hi' := hi
      rw [List.length_zipWith] at hi'
      refine ⟨_, rfl, _, rfl, _, _, rfl, rfl, ?_⟩
      refine cpost e3 (sizeBig (by rw [List.length_map, List.length_take]; omega)) hi ?_
      refine ⟨_, _, rfl, same_upd s3 ha, upd_same, ?_⟩
      have hz : (List.zipWith (fun a b => decide (b ≤ a)) cs (cs.drop 1))[i]? = some (decide (m ≤ n)) := by rw [List.getElem?_zipWith, hn, hm]
      rw [List.take_add_one, hz, List.map_append]; rfl
    · rintro ys σ H3 ⟨z1, z2, rfl, s3, e3, rfl⟩
      rw [List.take_length] at e3
      exact ⟨acc, _, rfl, SqL.of e3, q H3 (s1.trans s3)⟩
theorem ok_atm {f : Addr} (F : Fd K mg "is_at_most" s_is_at_most f) (T : Tx K mg) : Cal P w K mg base CX0 1 "is_at_most" spAtM := by
  refine F.cal sc_is_at_most (fun _ _ _ _ _ _ us hl => L3.bind2 (fun _ _ => rfl) us hl) (fun vs H Q E h => ?_) (fun cdv A outer s H vs Q E hr h => ?_)
  · obtain ⟨c, d, cs, ms, rfl, _⟩ := h; rfl
  · obtain ⟨c, d, cs, ms, rfl, ec, ed, hl, q⟩ := h
    refine ⟨_, (bone (sret (qB (fAll K) rfl T.b_all bt_all (qcons (qcomp (sc := defScope s_is_at_most) (NX := ["costs", "made"]) ["one", "other"] [none, none] rfl (izipT K rfl T.b_zip (qcons (qv 0) (qcons (qv 1) qnil))) (fun _ _ _ => (gtup (n := 2) K rfl (gscons (gname (i := 0) (show (["one", "other"] : List Str).Nodup by decide +kernel) rfl (by first | exact Or.inl rfl | exact Or.inr rfl)) (gscons (gname (i := 1) (show (["one", "other"] : List Str).Nodup by decide +kernel) rfl (by first | exact Or.inl rfl | exact Or.inr rfl)) gsnil)))) (fun _ _ _ => csnil) (fun _ _ _ => (qcmp rLe (qv 0) (qv 1) (nomark _))) rfl rfl (by decide +kernel)) qnil)))), ?_⟩
    refine ⟨_, rfl, _, rfl, c, d, _, _, rfl, SqT.of ec, SqT.of ed, fun acc ha => ?_⟩
    refine comp_zipT (xs := cs.map V.int) (ys := ms.map V.int) (n := (List.zipWith (fun a b => decide (a ≤ b)) cs ms).length) (by rw [List.length_zipWith, List.length_map, List.length_map]) (fun i ys σ H' => ∃ z1 z2, σ = [z1, z2] ∧ Same H H' ∧ H' acc = some (.lst ys) ∧ ys = ((List.zipWith (fun a b => decide (a ≤ b)) cs ms).take i).map V.bl) ⟨none, none, rfl, same_new ha, upd_same, rfl⟩ (fun i ys σ H' ⟨_, _, _, s', _⟩ => ⟨SqT.of (s' _ _ ec), SqT.of (s' _ _ ed)⟩) ?_ ?_
    · rintro i ys x y σ G T1 hx hy hi ⟨z1, z2, rfl, sG, eG, rfl⟩ hT
      rw [List.getElem?_map] at hx hy
      obtain ⟨n, hn, rfl⟩ := Option.map_eq_some_iff.mp hx
      obtain ⟨m, hm, rfl⟩ := Option.map_eq_some_iff.mp hy
      have haT : acc ≠ T1 := fun z => by rw [z, hT] at eG; cases eG
      refine ⟨T1, _, rfl, SqT.of upd_same, rfl, _, _, rfl, _, _, rfl, rfl, ?_⟩
      have s3 : Same H (upd G T1 (.tup [.int n, .int m])) := same_upd sG (sG.free hT)
      have e3 : upd G T1 (.tup [.int n, .int m]) acc = some (.lst (((List.zipWith (fun a b => decide (a ≤ b)) cs ms).take i).map V.bl)) := by rw [upd_ne haT]; exact eG
      generalize upd G T1 (.tup [.int n, .int m]) = G3 at *
      have hi' := hi
      rw [List.length_zipWith] at hi'
      refine ⟨_, rfl, _, rfl, _, _, rfl, rfl, ?_⟩
      refine cpost e3 (sizeBig (by rw [List.length_map, List.length_take]; omega)) hi ?_
      refine ⟨_, _, rfl, same_upd s3 ha, upd_same, ?_⟩
      have hz : (List.zipWith (fun a b => decide (a ≤ b)) cs ms)[i]? = some (decide (n ≤ m)) := by rw [List.getElem?_zipWith, hn, hm]
      rw [List.take_add_one, hz, List.map_append]; rfl
    · rintro ys σ H3 ⟨z1, z2, rfl, s3, e3, rfl⟩
      rw [List.take_length] at e3
      exact ⟨acc, _, rfl, SqL.of e3, q H3 s3⟩
end
end K18
namespace K18
open PySem L2 L3
abbrev Tbl := List (Int × List Int)
def madeAt (R : Nat) (wt : Int → Int) (tc : Int → List Int) : Tr → List Int
  | .nil => []
  | .node l _ r => madeG R wt tc l r
def passR (R : Nat) (wt : Int → Int) (t : Tr) (rows : Tbl) (e : Int × List Int) : Bool := never e.2 && atMost e.2 (madeAt R wt (lkP rows) (at_ e.1 t))
def showsB (R : Nat) (wt : Int → Int) (t : Tr) (rows : Tbl) (n : Int) : Bool := decide (rows.map (·.1) = t.keys) && (rows.all (passR R wt t rows) && decide (n ≤ sdG R wt (lkP rows) t 0))
theorem reps_rows {H : Hp} : ∀ {ws : List V} {rows : Tbl}, Reps H ws (rows.map rwD) → ∃ (bs : List Addr) (prs : List (Key × V)), ws = bs.map V.ref ∧ bs.length = prs.length ∧ (∀ (j : Nat) b pr, bs[j]? = some b → prs[j]? = some pr → H b = some (.tup [kV pr.1, pr.2])) ∧ prs.map (·.1) = rows.map (fun e => (Sum.inl e.1 : Key)) ∧ ∀ e ∈ rows, ∃ c, ((Sum.inl e.1 : Key), V.ref c) ∈ prs ∧ H c = some (.tup (e.2.map V.int))
  | [], [], _ => ⟨[], [], rfl, rfl, (fun j b pr h => by simp at h), rfl, fun e he => by cases he⟩
  | _ :: _, [], h => nomatch h
  | [], _ :: _, h => nomatch h
  | w :: ws, e :: rows, h => by
    cases h with
    | cons h1 h2 =>
      obtain ⟨b, c, rfl, eb, ec⟩ := rep_row h1
      obtain ⟨bs, prs, rfl, hl, hp, hk, hm⟩ := reps_rows h2
      refine ⟨b :: bs, (Sum.inl e.1, .ref c) :: prs, rfl, by simp [hl], fun j b' pr h1 h2 => ?_, by rw [List.map_cons, hk]; rfl, fun e' he' => ?_⟩
      · cases j with
        | zero =>
          simp at h1 h2
          rw [← h1, ← h2]; exact eb
        | succ j => exact hp j b' pr (by simpa using h1) (by simpa using h2)
      · rcases List.mem_cons.mp he' with rfl | he'
        · exact ⟨c, .head _, ec⟩
        · obtain ⟨c', h1, h2⟩ := hm e' he'
          exact ⟨c', .tail _ h1, h2⟩
theorem side_rows {R : Nat} {wt : Int → Int} {t : Tr} {H : Hp} {bd td : Addr} {kb prs : List (Key × V)} {rows : Tbl} (eb : H bd = some (.dK kb)) (et : H td = some (.dK prs)) (hb : BdOk wt t kb) (hnd : t.keys.Nodup) (hk : rows.map (·.1) = t.keys) (hpk : prs.map (·.1) = rows.map (fun e => (Sum.inl e.1 : Key))) (hR : ∀ e ∈ rows, e.2.length = R)
    (hm : ∀ e ∈ rows, ∃ c, ((Sum.inl e.1 : Key), V.ref c) ∈ prs ∧ H c = some (.tup (e.2.map V.int))) {u : Tr} (hu : u ≠ .nil → at_ (top1 u) t = u) : SideOk H bd td R wt (lkP rows) u := fun hn => by
  have h3 := hu hn
  have h2 : top1 u ∈ t.keys := at_mem (by rw [h3]; exact hn)
  have hb' := hb _ h2
  rw [h3] at hb'
  rw [← hk] at h2 hnd
  obtain ⟨e, he, e1⟩ := List.mem_map.mp h2
  obtain ⟨c, c1, c2⟩ := hm e he
  have hlk : lkP rows (top1 u) = e.2 := lkP_of' hnd (by rw [← e1]; exact he)
  rw [e1] at c1
  have hpn : (prs.map (·.1)).Nodup := by
    rw [hpk]
    have : (rows.map fun e => (Sum.inl e.1 : Key)) = (rows.map (·.1)).map Sum.inl := by rw [List.map_map]; rfl
    rw [this]
    exact List.pairwise_map.mpr (hnd.imp fun h z => h (Sum.inl.inj z))
  exact ⟨⟨kb, eb, hb'⟩, by rw [hlk]; exact hR e he, prs, c, et, valV_some' hpn c1, by rw [hlk]; exact c2⟩
def spShows : Sp := fun vs H Q _ => ∃ (v : V) (t : Tr) (R : Nat) (wb tb : Addr) (wt : Int → Int) (ws : List V) (rows : Tbl) (n : Int), vs = [v, .int (R : Int), .ref wb, .ref tb, .int n] ∧ Rep H v t.d ∧ t.ord none none ∧ t.ht < 80 ∧ t.size ≤ 60 ∧ t.keys.Nodup ∧ 1 ≤ R ∧ R ≤ 100 ∧ H wb = some (.lst ((t.keys.map wt).map V.int)) ∧ H tb = some (.lst ws) ∧ Reps H ws (rows.map rwD) ∧ rows.length ≤ 1000 ∧ (∀ e ∈ rows, e.2.length = R) ∧ ∀ H', Same H H' → Q (.bl (showsB R wt t rows n)) H'
section
variable {P : Program} {w : World} {K : PySem.W.Frag} {mg : Str → Option Value} {base : Heap}
theorem ok_shows {f : Addr} (F : Fd K mg "shows_cost" s_shows_cost f) (T : Tx K mg) (C_keys_of : Cal P w K mg base CX0 80 "keys_of" (spKof 80)) (C_burdens_by_key : Cal P w K mg base CX0 82 "burdens_by_key" spBurs) (C_made_costs : Cal P w K mg base CX0 3 "made_costs" spMade) (C_knot_at : Cal P w K mg base CX0 2 "knot_at" spAt) (C_never_rises : Cal P w K mg base CX0 1 "never_rises" spNever) (C_is_at_most : Cal P w K mg base CX0 1 "is_at_most" spAtM) (C_least_cost : Cal P w K mg base CX0 1 "least_cost" spLeast) : Cal P w K mg base CX0 84 "shows_cost" spShows := by
  refine F.cal sc_shows_cost (fun _ _ _ _ _ _ us hl => L3.bind5 (fun _ _ _ _ _ => rfl) us hl) (fun vs H Q E h => ?_) (fun cdv A outer s H vs Q E hr h => ?_)
  · obtain ⟨v, t, R, wb, tb, wt, ws, rows, n, rfl, _⟩ := h; rfl
  · obtain ⟨v, t, R, wb, tb, wt, ws, rows, n, rfl, hv, ho, ht, hz, hnd, hR, hR2, ewb, etb, gtb, hrl, hrR, q⟩ := h
    refine ⟨_, (bcons (sif (QW.tst (wor (tcmp (rNeq hr) (qcomp (sc := defScope s_shows_cost) (NX := ["tree", "room", "weights", "table", "number", "told", "burdens", "key", "costs", "made"]) ["row"] [none] rfl (iseq K (qv 3)) (fun _ _ _ => (gname (i := 0) (show (["row"] : List Str).Nodup by decide +kernel) rfl (by first | exact Or.inl rfl | exact Or.inr rfl))) (fun _ _ _ => csnil) (fun _ _ _ => (qix (xIx K) (qv 0) qint (fun _ _ => rfl))) rfl rfl (by decide +kernel)) (qF C_keys_of (hr.mono (by omega)) pass0 rfl (qcons (qv 0) qnil)) (nomark _)) (wor1 (ttru K (qB (fAny K) rfl T.b_any bt_any (qcons (qcomp (sc := defScope s_shows_cost) (NX := ["tree", "room", "weights", "table", "number", "told", "burdens", "key", "costs", "made"]) ["row", "room"] [none, some 1] rfl (iseq K (qv 3)) (fun _ _ _ => (gname (i := 0) (show (["row", "room"] : List Str).Nodup by decide +kernel) rfl (by first | exact Or.inl rfl | exact Or.inr rfl))) (fun _ _ _ => csnil) (fun _ _ _ => (qcmp (rNeq hr) (qB (fLen K) rfl T.b_len bt_len (qcons (qix (xIx K) (qv 0) qint (fun _ _ => rfl)) qnil)) (qv 1) (nomark _))) rfl rfl (by decide +kernel)) qnil)) (fun _ => rfl))))) (bone (sret qbl)) bnil)
      (bcons (sset (i := 5) sc_shows_cost.nd rfl (by first | exact Or.inl rfl | exact Or.inr rfl) (qTy (fDictP K) rfl T.b_dict bt_dict (qcons (qv 3) qnil)))
      (bcons (sset (i := 6) sc_shows_cost.nd rfl (by first | exact Or.inl rfl | exact Or.inr rfl) (qF C_burdens_by_key (hr.mono (by omega)) pass0 rfl (qcons (qv 0) (qcons (qv 2) qnil))))
      (bcons (sfor PassesOwn.never rfl (iseq K (qv 3)) (gtup (n := 2) K rfl (gscons (gname (i := 7) sc_shows_cost.nd rfl (by first | exact Or.inl rfl | exact Or.inr rfl)) (gscons (gname (i := 8) sc_shows_cost.nd rfl (by first | exact Or.inl rfl | exact Or.inr rfl)) gsnil)))
        (bcons (sset (i := 9) sc_shows_cost.nd rfl (by first | exact Or.inl rfl | exact Or.inr rfl) (qF C_made_costs (hr.mono (by omega)) pass0 rfl (qcons (qF C_knot_at (hr.mono (by omega)) pass0 rfl (qcons (qv 0) (qcons (qv 7) qnil))) (qcons (qv 1) (qcons (qv 6) (qcons (qv 5) qnil))))))
        (bone (sif (QW.tst (wor (tnot (ttru K (qF C_never_rises (hr.mono (by omega)) pass0 rfl (qcons (qv 8) qnil)) (fun _ => rfl))) (wor1 (tnot (ttru K (qF C_is_at_most (hr.mono (by omega)) pass0 rfl (qcons (qv 8) (qcons (qv 9) qnil))) (fun _ => rfl)))))) (bone (sret qbl)) bnil))))
      (bone (sret (qcmp rLe (qv 4) (qF C_least_cost (hr.mono (by omega)) pass0 rfl (qcons (qv 0) (qcons (qv 6) (qcons (qv 5) qnil)))) (nomark _)))))))), ?_⟩
    have hwl := gtb.length
    rw [List.length_map] at hwl
    -- the keys
    refine ⟨_, rfl, tb, rfl, .inl ⟨⟨_, SqL.of etb⟩, fun acc ha => ?_⟩⟩
    refine comp_list (xs := ws) (fun i ys σ H' => ∃ z, σ = [z] ∧ Same H H' ∧ H' acc = some (.lst ys) ∧ ys = ((rows.take i).map (·.1)).map V.int) ⟨none, rfl, same_new ha, upd_same, rfl⟩ (fun i ys σ H' hh => by obtain ⟨_, _, s', _⟩ := hh; exact SqL.of (s' _ _ etb)) ?_ ?_
    · rintro i ys y σ G hy hi ⟨z, rfl, sG, eG, rfl⟩
      obtain ⟨e, he, ge⟩ := reps_map gtb hy
      obtain ⟨b, c, rfl, eb, ec⟩ := rep_row (ge.mono sG)
      refine ⟨_, rfl, b, _, 0, _, rfl, rfl, .inr (SqT.of eb), atI_nat (j := 0) rfl, ?_⟩
      refine cpost eG (sizeBig (by rw [List.length_map, List.length_map, List.length_take]; omega)) hi ?_
      exact ⟨_, rfl, same_upd sG ha, upd_same, by rw [List.take_add_one, he, List.map_append, List.map_append]; rfl⟩
    rintro ys σ H1 ⟨z, rfl, s1, e1, rfl⟩
    rw [List.take_of_length_le (by omega)] at e1
    refine ⟨_, rfl, v, t, rfl, hv.mono s1, ht, by omega, fun kb2 H2 n2 s2 e2 => ?_⟩
    have s02 := s1.trans s2
    refine ne_ints (s2 _ _ e1) e2 ?_
    refine ⟨_, rfl, ?_⟩
    by_cases hk : ¬ rows.map (·.1) = t.keys
    · have hB : showsB R wt t rows n = false := by unfold showsB; rw [decide_eq_false hk]; rfl
      rw [decide_eq_false hk]
      refine iteT (iteT ?_)
      have := q H2 s02
      rw [hB] at this
      exact this
    replace hk := Classical.not_not.mp hk
    rw [decide_eq_true hk]
    refine iteF ?_
    -- the lengths
    have etb2 := s02 _ _ etb
    have gtb2 := gtb.mono s02
    refine ⟨_, rfl, tb, rfl, .inl ⟨⟨_, SqL.of etb2⟩, fun acc3 ha3 => ?_⟩⟩
    refine comp_list (xs := ws) (fun i ys σ H' => ∃ z, σ = [z, some (.int (R : Int))] ∧ Same H2 H' ∧ H' acc3 = some (.lst ys) ∧ ys = (List.replicate i false).map V.bl) ⟨none, rfl, same_new ha3, upd_same, rfl⟩ (fun i ys σ H' hh => by obtain ⟨_, _, s', _⟩ := hh; exact SqL.of (s' _ _ etb2)) ?_ ?_
    · rintro i ys y σ G hy hi ⟨z, rfl, sG, eG, rfl⟩
      obtain ⟨e, he, ge⟩ := reps_map gtb2 hy
      obtain ⟨b, c, rfl, eb, ec⟩ := rep_row (ge.mono sG)
      have hlen := hrR e (List.mem_of_getElem? he)
      refine ⟨_, rfl, b, _, 1, _, rfl, rfl, .inr (SqT.of eb), atI_nat (j := 1) rfl, c, _, rfl, .inr (SqT.of ec), _, rfl, ?_⟩
      have hd : (!decide (((e.2.map V.int).length : Int) = (R : Int))) = false := by rw [List.length_map, hlen]; simp
      show CPost _ acc3 ws.length i _ (V.bl (!decide (((e.2.map V.int).length : Int) = (R : Int)))) G
      rw [hd]
      refine cpost eG (sizeBig (by rw [List.length_map, List.length_replicate]; omega)) hi ?_
      exact ⟨_, rfl, same_upd sG ha3, upd_same, by rw [List.replicate_succ', List.map_append]; rfl⟩
    rintro ys σ H3 ⟨z, rfl, s3, e3, rfl⟩
    have hany : (List.replicate ws.length false).any id = false := by
      rw [List.any_eq_false]
      intro x hx
      rw [(List.mem_replicate.mp hx).2]
      simp
    refine ⟨acc3, _, rfl, SqL.of e3, _, rfl, ?_⟩
    rw [hany]
    refine iteF ?_
    have s03 := s02.trans s3
    -- the dicts
    obtain ⟨bs, prs, hbs, hbl, hbp, hpk, hpm⟩ := reps_rows (gtb.mono s03)
    refine ⟨_, rfl, tb, bs, prs, rfl, SqL.of (by rw [← hbs]; exact s03 _ _ etb), hbl, hbp, fun d H4 n4 s4 e4 _ => ?_⟩
    have hpn : (prs.map (·.1)).Nodup := by
      rw [hpk]
      have : (rows.map fun e => (Sum.inl e.1 : Key)) = (rows.map (·.1)).map Sum.inl := by rw [List.map_map]; rfl
      rw [this, hk]
      exact List.pairwise_map.mpr (hnd.imp fun h z => h (Sum.inl.inj z))
    rw [merge_app prs [] (by simpa using hpn), List.nil_append] at e4
    have s04 := s03.trans s4
    refine ⟨_, rfl, _, rfl, v, t, wb, wt, rfl, hv.mono s04, ho, ht, by omega, s04 _ _ ewb, fun bd H5 kb n5 s5 e5 hb5 => ?_⟩
    have s05 := s04.trans s5
    have e45 := s5 _ _ e4
    have hpm5 : ∀ e ∈ rows, ∃ c, ((Sum.inl e.1 : Key), V.ref c) ∈ prs ∧ H5 c = some (.tup (e.2.map V.int)) := fun e he => by
      obtain ⟨c, h1, h2⟩ := hpm e he
      exact ⟨c, h1, (s4.trans s5) _ _ h2⟩
    have sok : ∀ {u : Tr} {G : Hp}, Same H5 G → (u ≠ .nil → at_ (top1 u) t = u) → SideOk G bd d R wt (lkP rows) u := fun {u G} sG hu => (side_rows e5 e45 hb5 hnd hk hpk hrR hpm5 hu).mono sG
    have gtb5 := gtb.mono s05
    have etb5 := s05 _ _ etb
    have hlk : ∀ e ∈ rows, lkP rows e.1 = e.2 := fun e he => lkP_of' (by rw [hk]; exact hnd) he
    refine ⟨_, rfl, tb, rfl, .inl ⟨⟨_, SqL.of etb5⟩, for_list (xs := ws) (fun i σ H' => ∃ z7 z8 z9, σ = [some v, some (.int (R : Int)), some (.ref wb), some (.ref tb), some (.int n), some (.ref d), some (.ref bd), z7, z8, z9] ∧ Same H5 H' ∧ (rows.take i).all (passR R wt t rows) = true)
      ⟨none, none, none, rfl, Same.refl _, rfl⟩ (fun i σ H' _ hh => by obtain ⟨_, _, _, _, s', _⟩ := hh; exact SqL.of (s' _ _ etb5)) ?_ ?_⟩⟩
    · rintro i y σ G hy ⟨z7, z8, z9, rfl, sG, hpass⟩
      obtain ⟨e, he, ge⟩ := reps_map gtb5 hy
      have hem := List.mem_of_getElem? he
      obtain ⟨b, c, rfl, eb, ec⟩ := rep_row (ge.mono sG)
      have hek : e.1 ∈ t.keys := by rw [← hk]; exact List.mem_map.mpr ⟨e, hem, rfl⟩
      obtain ⟨e', he', e'1⟩ := List.mem_map.mp ((wk_keys t e.1).mpr hek)
      obtain ⟨l, r, hat, hkids⟩ := wk_at t none none ho e' he'
      rw [e'1] at hat
      refine ⟨b, _, rfl, SqT.of eb, rfl, _, _, rfl, _, _, rfl, rfl, ?_⟩
      refine ⟨_, rfl, _, rfl, v, t, e.1, rfl, hv.mono (s05.trans sG), fun v' hv' => ?_⟩
      rw [hat] at hv'
      obtain ⟨a, vl, vr, rfl, ea, hl, hr'⟩ := rep_node hv'
      have kid : ∀ u : Tr, (u = l ∨ u = r) → u ≠ .nil → at_ (top1 u) t = u := fun u hu hn => by
        cases u with
        | nil => exact absurd rfl hn
        | node x y z => exact at_in t none none ho e.1 l r hat x y z (by rcases hu with h | h; exact .inl h.symm; exact .inr h.symm)
      refine ⟨_, rfl, _, rfl, _, rfl, a, vl, vr, l, r, e.1, R, bd, d, wt, lkP rows, rfl, ea, hl, hr', hR, hR2, sok sG (kid l (.inl rfl)), sok sG (kid r (.inr rfl)), fun mb G1 n1' t1 em => ?_⟩
      have hma : madeAt R wt (lkP rows) (at_ e.1 t) = madeG R wt (lkP rows) l r := by rw [hat]; rfl
      have hel := hrR e hem
      refine ⟨_, rfl, c, e.2, rfl, t1 _ _ ec, by omega, by omega, fun G2 t2 => ?_⟩
      have htk : (rows.take (i + 1)).all (passR R wt t rows) = ((rows.take i).all (passR R wt t rows) && passR R wt t rows e) := by
        rw [List.take_add_one, he, List.all_append]; simp
      have hfail : passR R wt t rows e = false → showsB R wt t rows n = false := fun hf => by
        unfold showsB
        have : rows.all (passR R wt t rows) = false := by
          rw [List.all_eq_false]
          exact ⟨e, hem, by rw [hf]; simp⟩
        rw [this]; simp
      refine ⟨_, rfl, ?_⟩
      cases hnv : never e.2 with
      | false =>
        refine iteT (iteT ?_)
        have := q G2 ((s05.trans sG).trans (t1.trans t2))
        rw [hfail (by unfold passR; rw [hnv]; rfl)] at this
        exact this
      | true =>
        refine iteF ?_
        refine ⟨_, rfl, _, rfl, c, mb, e.2, _, rfl, t2 _ _ (t1 _ _ ec), t2 _ _ em, by omega, fun G3 t3 => ?_⟩
        refine ⟨_, rfl, ?_⟩
        cases ham : atMost e.2 (madeG R wt (lkP rows) l r) with
        | false =>
          refine iteT ?_
          have := q G3 ((s05.trans sG).trans ((t1.trans t2).trans t3))
          rw [hfail (by unfold passR; rw [hma, ham]; simp)] at this
          exact this
        | true =>
          refine iteF ?_
          exact ⟨_, _, _, rfl, sG.trans ((t1.trans t2).trans t3), by rw [htk, hpass]; unfold passR; rw [hma, ham, hnv]; rfl⟩
    · rintro σ G ⟨z7, z8, z9, rfl, sG, hpass⟩
      rw [List.take_of_length_le (by omega)] at hpass
      have top : t ≠ .nil → at_ (top1 t) t = t := fun hn => by
        cases t with
        | nil => exact absurd rfl hn
        | node l k r => exact at_self
      refine ⟨_, rfl, _, rfl, _, rfl, _, rfl, v, t, R, bd, d, wt, lkP rows, rfl, hv.mono (s05.trans sG), hR, sok sG top, ?_⟩
      have := q G (s05.trans sG)
      have hB : showsB R wt t rows n = decide (n ≤ sdG R wt (lkP rows) t 0) := by unfold showsB; rw [decide_eq_true hk, hpass]; rfl
      rw [hB] at this
      exact ⟨_, _, rfl, rfl, this⟩
end
end K18
namespace K18
open PySem L2 L3
theorem reps_take {H : Hp} : ∀ {ws : List V} {rows : Tbl} (i : Nat), Reps H ws (rows.map rwD) → Reps H (ws.take i) ((rows.take i).map rwD)
  | _, _, 0, _ => by rw [List.take_zero, List.take_zero]; exact .nil
  | [], [], i + 1, _ => .nil
  | _ :: _, [], i + 1, h => nomatch h
  | [], _ :: _, i + 1, h => nomatch h
  | w :: ws, e :: rows, i + 1, h => by
    cases h with
    | cons h1 h2 => exact .cons h1 (reps_take i h2)
theorem reps_drop {H : Hp} : ∀ {ws : List V} {rows : Tbl} (i : Nat), Reps H ws (rows.map rwD) → Reps H (ws.drop i) ((rows.drop i).map rwD)
  | _, _, 0, h => h
  | [], [], i + 1, _ => .nil
  | _ :: _, [], i + 1, h => nomatch h
  | [], _ :: _, i + 1, h => nomatch h
  | w :: ws, e :: rows, i + 1, h => by
    cases h with
    | cons h1 h2 => exact reps_drop i h2
def spWeight : Sp := fun vs H Q _ => ∃ (p : Addr), vs = [.ref p] ∧ Pen3 H p ∧ ∀ r H', 0 ≤ r → Pen3 H' p → Same (rm p H) H' → Q (.int r) H'
section
variable {P : Program} {w : World} {K : PySem.W.Frag} {mg : Str → Option Value} {base : Heap}
theorem ok_weight {f : Addr} (F : Fd K mg "_law_weight" s_law_weight f) (T : Tx K mg) (C_law_draw : Cal P w K mg base CX0 1 "_law_draw" spDraw) : Cal P w K mg base CX0 2 "_law_weight" spWeight := by
  refine F.cal sc_law_weight (fun _ _ _ _ _ _ us hl => L3.bind1 (fun _ => rfl) us hl) (fun vs H Q E h => ?_) (fun cdv A outer s H vs Q E hr h => ?_)
  · obtain ⟨p, rfl, _⟩ := h; rfl
  · obtain ⟨p, rfl, hp, q⟩ := h
    refine ⟨_, (bcons (sset (i := 1) sc_law_weight.nd rfl (by first | exact Or.inl rfl | exact Or.inr rfl) (qF C_law_draw (hr.mono (by omega)) pass0 rfl (qcons (qv 0) (qcons qint qnil))))
      (bcons (sif (tcmp (rEqq hr) (qv 1) qint (nomark _)) (bone (sret (qop rAdd (qop rMul (qF C_law_draw (hr.mono (by omega)) pass0 rfl (qcons (qv 0) (qcons (qop rPow qint qint) qnil))) (qop rPow qint qint)) (qF C_law_draw (hr.mono (by omega)) pass0 rfl (qcons (qv 0) (qcons (qop rPow qint qint) qnil)))))) bnil)
      (bone (sret (qix (xIx K) (qlst (qcons qint (qcons qint (qcons (qF C_law_draw (hr.mono (by omega)) pass0 rfl (qcons (qv 0) (qcons qint qnil))) (qcons (qF C_law_draw (hr.mono (by omega)) pass0 rfl (qcons (qv 0) (qcons qint qnil))) qnil))))) (qop rMod (qv 1) qint) (fun _ _ => rfl)))))), ?_⟩
    refine ⟨_, rfl, p, 8, rfl, hp, by decide, by decide, fun r1 H1 r10 r11 p1 s1 => ?_⟩
    refine ⟨_, rfl, _, rfl, ?_⟩
    refine ite2 (fun _ => ?_) (fun _ => ?_)
    · refine ⟨_, rfl, _, _, rfl, rfl, ⟨by decide, by decide, by decide⟩, p, _, rfl, p1, by decide, by decide +kernel, fun r2 H2 r20 r21 p2 s2 => ?_⟩
      have h8 : (10 : Int) ^ Int.toNat 8 = 100000000 := by decide
      rw [h8] at r21
      refine ⟨_, _, rfl, rfl, ⟨by decide, by decide, by decide⟩, _, _, rfl, rfl, cmL (by omega), ?_⟩
      refine ⟨_, rfl, _, _, rfl, rfl, ⟨by decide, by decide, by decide⟩, p, _, rfl, p2, by decide, by decide +kernel, fun r3 H3 r30 r31 p3 s3 => ?_⟩
      exact q _ H3 (by have : (0 : Int) ≤ r2 * 10 ^ Int.toNat 41 := Int.mul_nonneg r20 (by decide +kernel); omega) p3 (rm_trans (rm_trans s1 s2) s3)
    · refine ⟨_, rfl, p, 10, rfl, p1, by decide, by decide, fun r2 H2 r20 r21 p2 s2 => ?_⟩
      refine ⟨_, rfl, p, 1000, rfl, p2, by decide, by decide, fun r3 H3 r30 r31 p3 s3 => ?_⟩
      refine ⟨(show 4 ≤ sizeLine by decide), fun l4 H4 n4 s4 e4 _ => ?_⟩
      obtain ⟨x, hx, hxm⟩ := atI_ints (ns := [0, 1, r2, r3]) (i := r1 % 4) (Int.emod_nonneg _ (by decide)) (by have := Int.emod_lt_of_pos r1 (show (0 : Int) < 4 by decide); simp; omega)
      refine ⟨_, rfl, _, _, rfl, rfl, (show (0 : Int) < 4 by decide), l4, _, _, .int x, rfl, rfl, .inl (SqL.of e4), hx, ?_⟩
      exact q _ H4 (by have := hxm; simp only [List.mem_cons, List.not_mem_nil, or_false] at this; omega) (p3.mono s4) ((rm_trans (rm_trans s1 s2) s3).trans s4)
end
end K18
namespace K18
open PySem L2 L3
theorem hd_sz (R : Nat) (wt : Int → Int) (td : List Int) : ∀ (t : Tr) (j : Nat), OkT R wt td t j → (hd td t).length ≤ j + 1
  | .nil, _, _ => Nat.zero_le _
  | .node l k r, j, ⟨h1, h2, h3, h4⟩ => by
    have kid : ∀ (u : Tr) (s : Nat), (u ≠ .nil → (tie td l k r u = true ↔ 0 < s)) → (hd td u).length ≤ nx R s + 1 → (if tie td l k r u then hd td u else []).length ≤ s := fun u s hu ih => by
      by_cases hn : u = .nil
      · subst hn
        rw [show hd td .nil = [] from rfl]
        split <;> simp
      · by_cases ht : tie td l k r u = true
        · rw [if_pos ht]
          have := (hu hn).mp ht
          unfold nx at ih
          rw [if_neg (by omega)] at ih
          omega
        · rw [if_neg ht]; simp
    have a := kid l _ h1 (hd_sz R wt td l _ h3)
    have b := kid r _ h2 (hd_sz R wt td r _ h4)
    have c := ch_le R wt l r j
    rw [hd, List.length_cons, List.length_append]
    omega
theorem er_sz (R : Nat) (hR : 1 ≤ R) (wt : Int → Int) (td : List Int) : ∀ (t : Tr) (j : Nat), OkT R wt td t j → ∀ e ∈ er td t, e.2.length ≤ R
  | .nil, _, _, e, he => by cases he
  | .node l k r, j, ⟨h1, h2, h3, h4⟩, e, he => by
    have kid : ∀ (u : Tr) (s : Nat), (u ≠ .nil → (tie td l k r u = true ↔ 0 < s)) → OkT R wt td u (nx R s) → e ∈ (if tie td l k r u then [] else u.key?.map fun c => (c, hd td u)) → e.2.length ≤ R := fun u s hu ho h => by
      split at h
      · cases h
      · rename_i ht
        obtain ⟨c, hc, rfl⟩ := List.mem_map.mp h
        have hn : u ≠ .nil := fun z => by subst z; simp [Tr.key?] at hc
        have hs : ¬ 0 < s := fun z => ht ((hu hn).mpr z)
        have := hd_sz R wt td u _ ho
        unfold nx at this
        rw [if_pos (by omega)] at this
        dsimp only
        omega
    rw [er] at he
    simp only [List.mem_append] at he
    rcases he with (he | he) | (he | he)
    · exact er_sz R hR wt td l _ h3 e he
    · exact kid l _ h1 h3 he
    · exact er_sz R hR wt td r _ h4 e he
    · exact kid r _ h2 h4 he
theorem en_sz {R : Nat} (hR : 1 ≤ R) {wt : Int → Int} {t : Tr} (hn : t.keys.Nodup) {e : Int × List Int} (he : e ∈ en (tb R wt t (R - 1)) t) : e.2.length ≤ R := by
  have ho : OkT R wt (tb R wt t (R - 1)) t (R - 1) := okT_of R wt _ t _ hn fun c _ => Iff.rfl
  rcases List.mem_append.mp he with h | h
  · exact er_sz R hR wt _ t _ ho e h
  · obtain ⟨c, _, rfl⟩ := List.mem_map.mp h
    have := hd_sz R wt _ t _ ho
    dsimp only
    omega
theorem up_page (td : List Int) (x : Int) : ∀ (t : Tr) (a : Int) (s : Option Int) (lo hi : Option Int), t.ord lo hi → t.keys.Nodup → x ∈ t.keys → (a = top1 t ∨ a ∉ t.keys) → (x = top1 t ∧ upK x t s = s) ∨ (x ≠ top1 t ∧ ∃ y, upK x t s = some y ∧ y ∈ t.keys ∧ (idf td a t y = idf td a t x ↔ idf td a t x ≠ x))
  | .nil, _, _, _, _, _, _, hx, _ => by simp [Tr.keys] at hx
  | .node l k r, a, s, lo, hi, ho, hn, hx, ha => by
    obtain ⟨n1, n2, n3, n4, n5⟩ := nd_node hn
    by_cases hk : x = k
    · left
      refine ⟨hk, ?_⟩
      rw [upK, if_pos hk.symm]
    · right
      refine ⟨hk, ?_⟩
      have hside := key_side ho hx (fun z => hk z.symm)
      have aout : ∀ v : Tr, (∀ y ∈ v.keys, y ∈ (Tr.node l k r).keys) → k ∉ v.keys → a ∉ v.keys := fun v sub kv hav => by
        rcases ha with z | z
        · rw [z] at hav; exact kv hav
        · exact z (sub a hav)
      have ik : idf td a (.node l k r) k = a := by rw [idf, if_pos rfl]
      have core : ∀ (v : Tr) (lo' hi' : Option Int), (∀ y ∈ v.keys, y ∈ (Tr.node l k r).keys) → k ∉ v.keys → (∀ y ∈ v.keys, idf td a (.node l k r) y = idf td (if tie td l k r v then a else top1 v) v y) → x ∈ v.keys → upK x (.node l k r) s = upK x v (some k) →
          ((x = top1 v ∧ upK x v (some k) = some k) ∨ (x ≠ top1 v ∧ ∃ y, upK x v (some k) = some y ∧ y ∈ v.keys ∧ (idf td (if tie td l k r v then a else top1 v) v y = idf td (if tie td l k r v then a else top1 v) v x ↔ idf td (if tie td l k r v then a else top1 v) v x ≠ x))) →
          ∃ y, upK x (.node l k r) s = some y ∧ y ∈ (Tr.node l k r).keys ∧ (idf td a (.node l k r) y = idf td a (.node l k r) x ↔ idf td a (.node l k r) x ≠ x) := fun v lo' hi' sub kv hI hxv hu hc => by
        have av := aout v sub kv
        rcases hc with ⟨h1, h2⟩ | ⟨h1, y, h2, h3, h4⟩
        · refine ⟨k, by rw [hu, h2], by simp [Tr.keys], ?_⟩
          rw [ik, hI x hxv]
          have ht : idf td (if tie td l k r v then a else top1 v) v x = if tie td l k r v then a else top1 v := by
            rw [h1]; exact idf_top td _ (ne_of_mem hxv)
          rw [ht]
          by_cases htie : tie td l k r v = true
          · rw [if_pos htie]
            exact ⟨fun _ z => av (by rw [z]; exact hxv), fun _ => rfl⟩
          · rw [if_neg htie]
            exact ⟨fun z => absurd (show a ∈ v.keys by rw [z, ← h1]; exact hxv) av, fun z => absurd h1.symm z⟩
        · exact ⟨y, by rw [hu, h2], sub y h3, by rw [hI y h3, hI x hxv]; exact h4⟩
      have out : ∀ v : Tr, a ∉ v.keys → ((if tie td l k r v then a else top1 v) = top1 v ∨ (if tie td l k r v then a else top1 v) ∉ v.keys) := fun v hav => by
        split
        · exact .inr hav
        · exact .inl rfl
      by_cases hlt : x < k
      · have hxl := hside.1 hlt
        refine core l lo (some k) (fun y hy => by simp [Tr.keys, hy]) n3 (fun y hy => ?_) hxl ?_ (up_page td x l _ (some k) lo (some k) ho.2.2.1 n1 hxl (out l (aout l (fun y hy => by simp [Tr.keys, hy]) n3)))
        · rw [idf, if_neg (fun z => n3 (by rw [← z]; exact hy)), if_pos hy]
        · rw [upK, if_neg (fun z => hk z.symm), if_pos hlt]
      · have hxr := hside.2 hlt
        refine core r (some k) hi (fun y hy => by simp [Tr.keys, hy]) n4 (fun y hy => ?_) hxr ?_ (up_page td x r _ (some k) (some k) hi ho.2.2.2 n2 hxr (out r (aout r (fun y hy => by simp [Tr.keys, hy]) n4)))
        · rw [idf, if_neg (fun z => n4 (by rw [← z]; exact hy)), if_neg (fun hl => n5 y hl hy)]
        · rw [upK, if_neg (fun z => hk z.symm), if_neg hlt]
def headB (h : Int → Nat) (t : Tr) (x : Int) : Bool := match upW (way x t) with | none => true | some u => decide (h u ≠ h x)
theorem up_is {t : Tr} {x : Int} (ho : t.ord none none) (hx : x ∈ t.keys) : upK x t none = upW (way x t) := upK_way x t none none none ho hx
theorem head_pid {td : List Int} {t : Tr} {L : List (List Int)} (ho : t.ord none none) (hl : Laid td t L) {x : Int} (hx : x ∈ t.keys) : headB (numP L) t x = decide (pid td t x = x) := by
  unfold headB
  rw [← up_is ho hx]
  rcases up_page td x t (top1 t) none none none ho hl.nd hx (.inl rfl) with ⟨h1, h2⟩ | ⟨h1, y, h2, h3, h4⟩
  · rw [h2]
    have : pid td t x = x := by unfold pid; rw [h1]; exact idf_top td _ (ne_of_mem hx)
    rw [decide_eq_true this]
  · rw [h2]
    dsimp only
    have e := hl.home h3 hx
    have h4 : pid td t y = pid td t x ↔ pid td t x ≠ x := h4
    by_cases z : pid td t x = x
    · rw [decide_eq_true z]
      exact decide_eq_true fun w => h4.mp (e.mp w) z
    · rw [decide_eq_false z]
      exact decide_eq_false fun w => w (e.mpr (h4.mpr z))
theorem page_of {td : List Int} {t : Tr} {L : List (List Int)} (hl : Laid td t L) {p : List Int} (hp : p ∈ L) : ∃ e ∈ en td t, p = so e.2 := by
  obtain ⟨q, hq, rfl⟩ := List.mem_map.mp (hl.perm.mem_iff.mp hp)
  obtain ⟨e, he, rfl⟩ := List.mem_map.mp hq
  exact ⟨e, he, rfl⟩
theorem pid_in {td : List Int} {t : Tr} (hn : t.keys.Nodup) {e : Int × List Int} (he : e ∈ en td t) {x : Int} (hx : x ∈ e.2) (hk : x ∈ t.keys) : pid td t x = e.1 := by
  obtain ⟨p, h1, h2⟩ := pid_page td hn hk
  exact congrArg Prod.fst (en_one hn h1 he h2 hx)
theorem sum_one : ∀ {ps : List Int} {c : Int}, ps.Nodup → c ∈ ps → (ps.map fun x => if x = c then (1 : Int) else 0).sum = 1
  | [], _, _, h => by cases h
  | p :: ps, c, hn, h => by
    rw [List.nodup_cons] at hn
    rw [List.map_cons, List.sum_cons]
    rcases List.mem_cons.mp h with z | z
    · rw [if_pos z.symm]
      have : (ps.map fun x => if x = c then (1 : Int) else 0) = ps.map fun _ => (0 : Int) := List.map_congr_left fun x hx => if_neg fun y => hn.1 (by rw [← z, ← y]; exact hx)
      rw [this]
      have h0 : ∀ qs : List Int, (qs.map fun _ => (0 : Int)).sum = 0 := fun qs => by
        induction qs with
        | nil => rfl
        | cons q qs ih => rw [List.map_cons, List.sum_cons, ih]; rfl
      rw [h0]; rfl
    · rw [if_neg (fun y => hn.1 (by rw [y]; exact z)), sum_one hn.2 z]; rfl
theorem one_head {td : List Int} {t : Tr} {L : List (List Int)} (ho : t.ord none none) (hl : Laid td t L) {p : List Int} (hp : p ∈ L) : (p.map fun x => if headB (numP L) t x = true then (1 : Int) else 0).sum = 1 := by
  obtain ⟨e, he, rfl⟩ := page_of hl hp
  have hf : L.flatten.Nodup := hl.flat.nodup_iff.mpr hl.nd
  have hin : ∀ x ∈ so e.2, x ∈ t.keys := fun x hx => hl.flat.mem_iff.mp (List.mem_flatten.mpr ⟨_, hp, hx⟩)
  have hnp : (so e.2).Nodup := hf.sublist (List.sublist_flatten_of_mem hp)
  have : ((so e.2).map fun x => if headB (numP L) t x = true then (1 : Int) else 0) = (so e.2).map fun x => if x = e.1 then (1 : Int) else 0 := List.map_congr_left fun x hx => by
    rw [head_pid ho hl (hin x hx), pid_in hl.nd he ((so_perm e.2).mem_iff.mp hx) (hin x hx)]
    by_cases z : e.1 = x
    · rw [decide_eq_true z, if_pos rfl, if_pos z.symm]
    · rw [decide_eq_false z, if_neg (by decide), if_neg (fun y => z y.symm)]
  rw [this]
  exact sum_one hnp ((so_perm e.2).mem_iff.mpr (en_top he))
theorem page_sz {R : Nat} (hR : 1 ≤ R) {wt : Int → Int} {t : Tr} {L : List (List Int)} (hl : Laid (tb R wt t (R - 1)) t L) {p : List Int} (hp : p ∈ L) : 1 ≤ p.length ∧ p.length ≤ R := by
  obtain ⟨e, he, rfl⟩ := page_of hl hp
  rw [(so_perm e.2).length_eq]
  exact ⟨List.length_pos_of_mem (en_top he), en_sz hR hl.nd he⟩
theorem gT_zero (R : Nat) (wt : Int → Int) : ∀ (t : Tr) (j : Nat), gT R wt (fun _ => 0) t j = 0 := fun t j => by
  have := gT_lin R wt (-1) (v := fun _ => (0 : Int)) (va := fun _ => 0) (vb := fun _ => 0) (t := t) (fun _ _ => by omega) j
  omega
theorem sum_gT (R : Nat) (wt : Int → Int) (t : Tr) (j : Nat) : ∀ ks : List Int, (ks.map fun x => wt x * gT R wt (one x) t j).sum = gT R wt (fun y => (ks.map fun x => wt x * one x y).sum) t j
  | [] => (gT_zero R wt t j).symm
  | k :: ks => by
    rw [List.map_cons, List.sum_cons, sum_gT R wt t j ks]
    have := gT_lin R wt (wt k) (v := fun y => ((k :: ks).map fun x => wt x * one x y).sum) (va := fun y => (ks.map fun x => wt x * one x y).sum) (vb := one k) (t := t) (fun y _ => by rw [List.map_cons, List.sum_cons]; omega) j
    rw [this]; omega
theorem sum_wt {wt : Int → Int} : ∀ {ks : List Int} {y : Int}, ks.Nodup → y ∈ ks → (ks.map fun x => wt x * one x y).sum = wt y := by
  intro ks y hn hy
  have out : ∀ qs : List Int, y ∉ qs → (qs.map fun x => wt x * one x y).sum = 0 := fun qs => by
    induction qs with
    | nil => intro _; rfl
    | cons q qs ih =>
      intro h
      rw [List.mem_cons, not_or] at h
      rw [List.map_cons, List.sum_cons, ih h.2]
      unfold one
      rw [if_neg h.1]; omega
  induction ks with
  | nil => cases hy
  | cons k ks ih =>
    rw [List.nodup_cons] at hn
    rw [List.map_cons, List.sum_cons]
    rcases List.mem_cons.mp hy with z | z
    · rw [out ks (by rw [z]; exact hn.1)]
      unfold one
      rw [if_pos z, z]; omega
    · rw [ih hn.2 z]
      unfold one
      rw [if_neg (fun e => hn.1 (by rw [← e]; exact z))]; omega
theorem sum_least (R : Nat) (wt : Int → Int) {t : Tr} (hn : t.keys.Nodup) : (t.keys.map fun x => wt x * (1 + gT R wt (one x) t (R - 1))).sum = least R wt t := by
  have h1 : ∀ ks : List Int, (ks.map fun x => wt x * (1 + gT R wt (one x) t (R - 1))).sum = (ks.map wt).sum + (ks.map fun x => wt x * gT R wt (one x) t (R - 1)).sum := fun ks => by
    induction ks with
    | nil => rfl
    | cons k ks ih =>
      rw [List.map_cons, List.sum_cons, ih, List.map_cons, List.sum_cons, List.map_cons, List.sum_cons, Int.mul_add, Int.mul_one]; omega
  rw [h1, sum_gT]
  have h2 := gT_lin R wt 0 (v := fun y => (t.keys.map fun x => wt x * one x y).sum) (va := wt) (vb := fun _ => 0) (t := t) (fun y hy => by rw [sum_wt hn hy]; omega) (R - 1)
  rw [h2, gT_self]
  unfold least sw
  omega
theorem acc_nd (h : Int → Nat) : ∀ (ks : List Int) (M : List Nat), M.Nodup → (acc h M ks).Nodup ∧ ∀ m, m ∈ acc h M ks ↔ m ∈ M ∨ m ∈ ks.map h
  | [], M, hM => ⟨hM, fun m => by simp [acc]⟩
  | k :: ks, M, hM => by
    have hM' : (meO h M k).Nodup := by
      unfold meO
      by_cases c : h k ∈ M
      · rw [if_pos c, List.append_nil]; exact hM
      · rw [if_neg c]
        refine List.nodup_append.mpr ⟨hM, by simp, fun a ha b hb => ?_⟩
        rw [List.mem_singleton] at hb
        rw [hb]
        exact fun z => c (by rw [← z]; exact ha)
    obtain ⟨h1, h2⟩ := acc_nd h ks (meO h M k) hM'
    refine ⟨h1, fun m => ?_⟩
    have e : acc h M (k :: ks) = acc h (meO h M k) ks := rfl
    rw [e, h2 m, List.map_cons, List.mem_cons]
    unfold meO
    by_cases c : h k ∈ M
    · rw [if_pos c, List.append_nil]
      constructor
      · rintro (z | z)
        · exact .inl z
        · exact .inr (.inr z)
      · rintro (z | z | z)
        · exact .inl z
        · exact .inl (by rw [z]; exact c)
        · exact .inr z
    · rw [if_neg c, List.mem_append, List.mem_singleton]
      constructor
      · rintro ((z | z) | z)
        · exact .inl z
        · exact .inr (.inl z)
        · exact .inr (.inr z)
      · rintro (z | z | z)
        · exact .inl (.inl z)
        · exact .inl (.inr z)
        · exact .inr z
theorem acc_rev (h : Int → Nat) (ks : List Int) : (acc h [] ks.reverse).length = (acc h [] ks).length := by
  obtain ⟨a1, a2⟩ := acc_nd h ks.reverse [] List.nodup_nil
  obtain ⟨b1, b2⟩ := acc_nd h ks [] List.nodup_nil
  refine ((List.perm_ext_iff_of_nodup a1 b1).mpr fun m => ?_).length_eq
  rw [a2, b2, List.map_reverse, List.mem_reverse]
theorem way_take : ∀ (t : Tr) (lo hi : Option Int), t.ord lo hi → ∀ (k : Int) (i : Nat) (y : Int), k ∈ t.keys → (way k t)[i]? = some y → way y t = (way k t).take (i + 1)
  | .nil, _, _, _, k, i, y, hk, _ => by simp [Tr.keys] at hk
  | .node l x r, lo, hi, ho, k, i, y, hk, h => by
    rw [way] at h ⊢
    by_cases hx : x = k
    · rw [if_pos hx] at h
      have hi0 : i = 0 := by
        match i, h with
        | 0, _ => rfl
        | i + 1, h => simp at h
      subst hi0
      have : k = y := by simpa using h
      rw [if_pos (by rw [hx, this])]
      rw [way, if_pos hx, ← this]; rfl
    · rw [if_neg hx] at h
      have hside := key_side ho hk hx
      match i, h with
      | 0, h =>
        have : x = y := by simpa using h
        rw [if_pos this, way, if_neg hx, ← this]; rfl
      | i + 1, h =>
        by_cases hlt : k < x
        · have hkl := hside.1 hlt
          rw [if_pos hlt] at h
          have h : (way k l)[i]? = some y := by simpa using h
          have hyl := way_sub k l y (List.mem_of_getElem? h)
          have hyx := ord_l ho hyl
          rw [if_neg (by omega), if_pos hyx, way_take l lo (some x) ho.2.2.1 k i y hkl h, way, if_neg hx, if_pos hlt]; rfl
        · have hkr := hside.2 hlt
          rw [if_neg hlt] at h
          have h : (way k r)[i]? = some y := by simpa using h
          have hyr := way_sub k r y (List.mem_of_getElem? h)
          have hyx := ord_r ho hyr
          rw [if_neg (by omega), if_neg (by omega), way_take r (some x) hi ho.2.2.2 k i y hkr h, way, if_neg hx, if_neg hlt]; rfl
theorem way_last : ∀ (t : Tr) (lo hi : Option Int), t.ord lo hi → ∀ k ∈ t.keys, (way k t).reverse[0]? = some k
  | .nil, _, _, _, k, hk => by simp [Tr.keys] at hk
  | .node l x r, lo, hi, ho, k, hk => by
    rw [way]
    by_cases hx : x = k
    · rw [if_pos hx]; rfl
    · rw [if_neg hx]
      have hside := key_side ho hk hx
      by_cases hlt : k < x
      · rw [if_pos hlt, List.reverse_cons]
        have := way_last l lo (some x) ho.2.2.1 k (hside.1 hlt)
        rw [List.getElem?_append_left (List.getElem?_eq_some_iff.mp this).1]
        exact this
      · rw [if_neg hlt, List.reverse_cons]
        have := way_last r (some x) hi ho.2.2.2 k (hside.2 hlt)
        rw [List.getElem?_append_left (List.getElem?_eq_some_iff.mp this).1]
        exact this
theorem up_next {t : Tr} (ho : t.ord none none) {k : Int} (hk : k ∈ t.keys) {j : Nat} {y : Int} (h : (way k t).reverse[j]? = some y) : upW (way y t) = (way k t).reverse[j + 1]? := by
  have hj := (List.getElem?_eq_some_iff.mp h).1
  rw [List.length_reverse] at hj
  have h' : (way k t)[(way k t).length - 1 - j]? = some y := by
    rw [List.getElem?_reverse hj] at h; exact h
  rw [way_take t none none ho k _ y hk h']
  unfold upW
  rw [List.length_take, Nat.min_eq_left (by omega)]
  by_cases c : 1 < (way k t).length - 1 - j + 1
  · rw [if_pos c, List.getElem?_take_of_lt (by omega), List.getElem?_reverse (by omega)]
    congr 1
  · rw [if_neg c, List.getElem?_eq_none (by rw [List.length_reverse]; omega)]
end K18
namespace K18
open PySem L2 L3
def rowsC (R : Nat) (wt : Int → Int) (t : Tr) : Tbl := t.keys.map fun k => (k, costs R wt (at_ k t))
theorem rowsC_keys (R : Nat) (wt : Int → Int) (t : Tr) : (rowsC R wt t).map (·.1) = t.keys := by
  unfold rowsC; rw [List.map_map]; exact List.map_id _
theorem rowsC_len (R : Nat) (wt : Int → Int) (t : Tr) : (rowsC R wt t).length = t.size := by
  unfold rowsC; rw [List.length_map, Tr.keys_length]
theorem rowsC_R {R : Nat} {wt : Int → Int} {t : Tr} : ∀ e ∈ rowsC R wt t, e.2.length = R := fun e he => by
  obtain ⟨k, _, rfl⟩ := List.mem_map.mp he
  exact costs_len R wt _
theorem lk_rows {R : Nat} {wt : Int → Int} {t : Tr} (hn : t.keys.Nodup) {k : Int} (hk : k ∈ t.keys) : lkP (rowsC R wt t) k = tcC R wt t k :=
  lkP_of' (by rw [rowsC_keys]; exact hn) (List.mem_map.mpr ⟨k, hk, rfl⟩)
theorem sdG_congr {R : Nat} {wt : Int → Int} {tc tc' : Int → List Int} {u : Tr} (h : u ≠ .nil → tc (top1 u) = tc' (top1 u)) : sdG R wt tc u = sdG R wt tc' u := by
  cases u with
  | nil => rfl
  | node l k r =>
    have : tc k = tc' k := h (fun z => nomatch z)
    unfold sdG
    dsimp only
    rw [this]
theorem kid_at {t : Tr} (ho : t.ord none none) {k : Int} {l r : Tr} (h : at_ k t = .node l k r) {u : Tr} (hu : u = l ∨ u = r) (hn : u ≠ .nil) : at_ (top1 u) t = u ∧ top1 u ∈ t.keys := by
  have h1 : at_ (top1 u) t = u := by
    cases u with
    | nil => exact absurd rfl hn
    | node x y z => exact at_in t none none ho k l r h x y z (by rcases hu with h | h; exact .inl h.symm; exact .inr h.symm)
  exact ⟨h1, at_mem (by rw [h1]; exact hn)⟩
theorem made_is {R : Nat} (hR : 1 ≤ R) {wt : Int → Int} {t : Tr} (ho : t.ord none none) {tc : Int → List Int} {k : Int} {l r : Tr} (h : at_ k t = .node l k r) (hc : ∀ u, (u = l ∨ u = r) → u ≠ .nil → tc (top1 u) = tcC R wt t (top1 u)) : madeAt R wt tc (at_ k t) = costs R wt (at_ k t) := by
  rw [h]
  show madeG R wt tc l r = _
  rw [← made_eq hR (k := k) (fun hn => (kid_at ho h (.inl rfl) hn).1) (fun hn => (kid_at ho h (.inr rfl) hn).1)]
  unfold madeG
  rw [sdG_congr (hc l (.inl rfl)), sdG_congr (hc r (.inr rfl))]
theorem atMost_self (cs : List Int) : atMost cs cs = true := by
  unfold atMost
  rw [zip_all]
  intro i x y hx hy
  rw [hx] at hy
  cases hy
  exact decide_eq_true (Int.le_refl _)
theorem costs_at {R : Nat} {wt : Int → Int} {u : Tr} {j : Nat} (hj : j < R) : (costs R wt u).getD j 0 = cT R wt u j := by
  unfold costs
  rw [List.getD_eq_getElem?_getD, List.getElem?_map, List.getElem?_range hj]; rfl
theorem never_costs {R : Nat} {wt : Int → Int} {u : Tr} (h : Nn wt u) : never (costs R wt u) = true := by
  rw [never_iff, costs_len]
  intro j hj
  rw [costs_at hj, costs_at (by omega)]
  exact (cT_anti R h).1 j
theorem pass_rows {R : Nat} (hR : 1 ≤ R) {wt : Int → Int} {t : Tr} (ho : t.ord none none) (hn : t.keys.Nodup) (hw : Nn wt t) : (rowsC R wt t).all (passR R wt t (rowsC R wt t)) = true := by
  rw [List.all_eq_true]
  intro e he
  obtain ⟨k, hk, rfl⟩ := List.mem_map.mp he
  obtain ⟨l, r, h⟩ := at_node k t none none ho hk
  unfold passR
  dsimp only
  rw [made_is hR ho h (fun u hu hne => lk_rows hn (kid_at ho h hu hne).2), atMost_self, never_costs (fun x hx => hw x (at_sub k t x hx))]
  rfl
theorem shows_told {R : Nat} (hR : 1 ≤ R) {wt : Int → Int} {t : Tr} (ho : t.ord none none) (hn : t.keys.Nodup) (hw : Nn wt t) (n : Int) : showsB R wt t (rowsC R wt t) n = decide (n ≤ least R wt t) := by
  unfold showsB
  rw [decide_eq_true (rowsC_keys R wt t), pass_rows hR ho hn hw, Bool.true_and, Bool.true_and]
  have : sdG R wt (lkP (rowsC R wt t)) t 0 = least R wt t := by
    cases t with
    | nil => rfl
    | node l k r =>
      have hk : k ∈ (Tr.node l k r).keys := by simp [Tr.keys]
      have h1 : sdG R wt (lkP (rowsC R wt (.node l k r))) (.node l k r) = sdG R wt (tcC R wt (.node l k r)) (.node l k r) := sdG_congr fun _ => lk_rows hn hk
      rw [h1]
      exact sdG_eq (t := .node l k r) (u := .node l k r) hR (fun _ => at_self) (show 0 < R by omega)
  rw [this]
theorem lkP_set : ∀ {rows : Tbl} {i : Nat} {e : Int × List Int} {x : List Int} {c : Int}, rows[i]? = some e → c ≠ e.1 → lkP (rows.set i (e.1, x)) c = lkP rows c
  | [], _, _, _, _, h, _ => by cases h
  | r :: rows, 0, e, x, c, h, hc => by
    have : r = e := by simpa using h
    subst this
    unfold lkP
    rw [List.set_cons_zero, List.find?_cons, List.find?_cons]
    have : decide (r.1 = c) = false := decide_eq_false (fun z => hc z.symm)
    dsimp only
    rw [this]
  | r :: rows, i + 1, e, x, c, h, hc => by
    have ih := lkP_set (rows := rows) (i := i) (e := e) (x := x) (c := c) (by simpa using h) hc
    unfold lkP at *
    rw [List.set_cons_succ, List.find?_cons, List.find?_cons]
    by_cases z : r.1 = c
    · rw [decide_eq_true z]
    · rw [decide_eq_false z]; exact ih
theorem raised_no {R : Nat} (hR : 1 ≤ R) {wt : Int → Int} {t : Tr} (ho : t.ord none none) (hn : t.keys.Nodup) {i j : Nat} {e : Int × List Int} (he : (rowsC R wt t)[i]? = some e) (hj : j < R) (n : Int) : showsB R wt t ((rowsC R wt t).set i (e.1, e.2.set j (e.2.getD j 0 + 1))) n = false := by
  have hm := List.mem_of_getElem? he
  obtain ⟨k, hk, rfl⟩ := List.mem_map.mp hm
  obtain ⟨l, r, h⟩ := at_node k t none none ho hk
  have hil := (List.getElem?_eq_some_iff.mp he).1
  have hnk : ∀ u, (u = l ∨ u = r) → u ≠ .nil → top1 u ≠ k := fun u hu hne z => by
    have h1 := kid_at ho h hu hne
    rw [z, h] at h1
    have h2 := congrArg Tr.size h1.1
    rw [Tr.size] at h2
    rcases hu with rfl | rfl <;> omega
  have pf : passR R wt t ((rowsC R wt t).set i (k, (costs R wt (at_ k t)).set j ((costs R wt (at_ k t)).getD j 0 + 1))) (k, (costs R wt (at_ k t)).set j ((costs R wt (at_ k t)).getD j 0 + 1)) = false := by
    unfold passR
    dsimp only
    rw [made_is hR ho h (fun u hu hne => by
      rw [lkP_set (e := (k, costs R wt (at_ k t))) he (hnk u hu hne)]
      exact lk_rows hn (kid_at ho h hu hne).2)]
    have : atMost ((costs R wt (at_ k t)).set j ((costs R wt (at_ k t)).getD j 0 + 1)) (costs R wt (at_ k t)) = false := by
      cases hb : atMost ((costs R wt (at_ k t)).set j ((costs R wt (at_ k t)).getD j 0 + 1)) (costs R wt (at_ k t)) with
      | false => rfl
      | true =>
        unfold atMost at hb
        rw [zip_all] at hb
        have hl : j < (costs R wt (at_ k t)).length := by rw [costs_len]; exact hj
        have := hb j _ _ (by rw [List.getElem?_set_self hl]) (List.getElem?_eq_getElem hl)
        have := of_decide_eq_true this
        rw [List.getD_eq_getElem?_getD, List.getElem?_eq_getElem hl, Option.getD_some] at this
        omega
    rw [this, Bool.and_false]
  unfold showsB
  have : ((rowsC R wt t).set i (k, (costs R wt (at_ k t)).set j ((costs R wt (at_ k t)).getD j 0 + 1))).all (passR R wt t ((rowsC R wt t).set i (k, (costs R wt (at_ k t)).set j ((costs R wt (at_ k t)).getD j 0 + 1)))) = false := by
    rw [List.all_eq_false]
    refine ⟨_, List.mem_of_getElem? (List.getElem?_set_self hil), ?_⟩
    rw [pf]; simp
  rw [this, Bool.false_and, Bool.and_false]
def post (R : Nat) (wt : Int → Int) : Tr → Tbl
  | .nil => []
  | .node l k r => post R wt l ++ post R wt r ++ [(k, costs R wt (.node l k r))]
theorem post_perm (R : Nat) (wt : Int → Int) : ∀ t : Tr, ((post R wt t).map (·.1)).Perm t.keys
  | .nil => .refl _
  | .node l k r => by
    rw [post, List.map_append, List.map_append, Tr.keys, List.append_assoc, List.append_assoc]
    exact ((post_perm R wt l).append ((post_perm R wt r).append (.refl _))).trans ((List.Perm.refl _).append List.perm_append_comm)
theorem post_at (R : Nat) (wt : Int → Int) : ∀ (t : Tr) (lo hi : Option Int), t.ord lo hi → ∀ e ∈ post R wt t, e.2 = costs R wt (at_ e.1 t)
  | .nil, _, _, _, e, h => by cases h
  | .node l k r, lo, hi, ho, e, h => by
    obtain ⟨ol, orr⟩ := ord_lr ho
    rw [post] at h
    simp only [List.mem_append, List.mem_singleton] at h
    rcases h with (h | h) | h
    · rw [at_left (ol e.1 ((post_perm R wt l).mem_iff.mp (List.mem_map.mpr ⟨e, h, rfl⟩)))]
      exact post_at R wt l _ _ ho.2.2.1 e h
    · rw [at_right (orr e.1 ((post_perm R wt r).mem_iff.mp (List.mem_map.mpr ⟨e, h, rfl⟩)))]
      exact post_at R wt r _ _ ho.2.2.2 e h
    · rw [h]; dsimp only; rw [at_self]
theorem minI_snoc (x : Int) : ∀ xs : List Int, xs ≠ [] → minI (xs ++ [x]) = min (minI xs) x := fun xs hx => by
  obtain ⟨a1, a2⟩ := minI_in xs hx
  refine (minI_is ?_ fun y hy => ?_).symm
  · by_cases c : minI xs ≤ x
    · rw [Int.min_eq_left c]; exact List.mem_append_left _ a1
    · rw [Int.min_eq_right (by omega)]; exact List.mem_append_right _ (by simp)
  · rcases List.mem_append.mp hy with z | z
    · have := a2 y z; omega
    · rw [List.mem_singleton] at z; omega
end K18
namespace L3
open PySem PySem.Spec PyProof.Rows L2
section
variable {X : Cx}
end
end L3
namespace L3
open PySem PySem.Spec PyProof.Rows L2
section
variable {X : Cx}
end
end L3
namespace L3
open PySem PySem.Spec PyProof.Rows L2
section
variable {X : Cx}
theorem op_notB : OpR X (compareOp .IsNot) (fun x y H Q => ∃ a b, x = .bl a ∧ y = .bl b ∧ Q (.bl (!decide (a = b))) H) := by
  intro pins s σ H x y v u Q I rx ry h
  obtain ⟨a, b, rfl, rfl, q⟩ := h
  cases rx
  cases ry
  refine wpAny_isNot_plain rfl (fin_bl I q ?_)
  cases a <;> cases b <;> rfl
theorem rIsNotB : ROp X (compareOp .IsNot) (fun x y H Q => ∃ a b, x = .bl a ∧ y = .bl b ∧ Q (.bl (!decide (a = b))) H) := .mk op_notB
end
end L3
namespace HS
open PySem PySem.W PyProof.Rows
section
variable {prog : Program} {w : World} {A : Around} {E : Value → Shared → Prop} {s : Shared}
theorem eqBool_self {v : Value} {Q : Bool → Shared → Prop} (h : Q true s) : wpAny (model prog w) A (eqBool v v) Q E s := by
  unfold eqBool
  refine wpAny_holding ?_
  rw [if_pos (beq_self_eq_true v)]
  exact wpAny_bind (wpAny_rule (wpAny_pure h))
def FstIs (h : Heap) (v : Value) (n : Int) : Prop := ∃ a its t r, v = .ref a ∧ IsTup h a its ∧ its.toList = Value.int n t :: r
theorem FstIs.kept {h h' : Heap} {v : Value} {n : Int} (t : FstIs h v n) (k : ∀ b o, h.get? b = some o → h'.get? b = some o) : FstIs h' v n := by
  obtain ⟨a, its, t, r, rfl, ⟨o, q, c⟩, i⟩ := t
  exact ⟨a, its, t, r, rfl, ⟨o, k a o q, c⟩, i⟩
theorem lex_selfV {b : Bool} {Q : Bool → Shared → Prop} : ∀ (vs : List Value) (i : Nat), Q false s → KatLex prog w A b false Q (vs.zip vs) i s
  | [], i, h => kat_nil h
  | v :: vs, i, h => by
    rw [List.zip_cons_cons]
    exact kat_cons (eqBool_self (kat_yes (lex_selfV vs (i + 1) h)))
theorem fsts_of {h : Heap} : ∀ {vs : List Value} {L : List Int}, F2 (FstIs h) vs L → ∃ fs, KatTups h vs fs ∧ fs.length = vs.length ∧ ∀ v ∈ fs, ∃ n t, v = Value.int n t
  | _, _, .nil => ⟨[], .nil, rfl, fun v hv => by cases hv⟩
  | _ :: _, m :: _, .cons t r => by
    obtain ⟨fs, f1, f2, f3⟩ := fsts_of r
    obtain ⟨a, its, u, rest, rfl, ⟨o, q, c, n, d⟩, hi⟩ := t
    refine ⟨.int m u :: fs, KatTups.cons q c d ?_ f1, by simp [f2], fun v hv => ?_⟩
    · rw [← Array.getElem?_toList, hi]; rfl
    · rcases List.mem_cons.mp hv with rfl | hv
      · exact ⟨_, _, rfl⟩
      · exact f3 v hv
theorem fst_getD {h : Heap} : ∀ {vs : List Value} {L : List Int}, F2 (FstIs h) vs L → ∀ i, i < vs.length → FstIs h (vs.getD i .none) (L.getD i 0)
  := by
  intro vs L t
  induction t with
  | nil => intro i hi; cases hi
  | cons t r ih =>
    intro i hi
    cases i with
    | zero => exact t
    | succ i => simpa using ih i (by simpa using hi)
theorem one_lt (a b : Int) : HT.lexLt [a] [b] = decide (a < b) := by
  rw [HT.lexLt_cons]
  by_cases e : a = b
  · rw [if_pos e, decide_eq_false (by omega)]; rfl
  · rw [if_neg e]
theorem asks_fst {vs : List Value} {L : List Int} (t : F2 (FstIs s.heap) vs L) (hn : L.Nodup) (two : 2 ≤ vs.length) : Asks prog w A vs (rk (L.map fun n => [n])) s := by
  obtain ⟨fs, f1, f2, f3⟩ := fsts_of t
  have hl : vs.length = L.length := t.length_eq
  refine kat_kind (T := .type "int") f1 (by omega) (fun v hv => ?_) rfl ⟨rfl, fun i j C hi hj hc => ?_⟩
  · obtain ⟨n, t, rfl⟩ := f3 v hv
    exact Looks.of_pure rfl
  · have hg : ∀ k, k < L.length → (L.map fun n => [n]).getD k [] = [L.getD k 0] := fun k hk => by simp [List.getD_eq_getElem?_getD, hk]
    rw [rk_lt (by simpa using (by omega : i < L.length)) (by simpa using (by omega : j < L.length)), hg i (by omega), hg j (by omega), one_lt] at hc
    unfold kas_ask
    obtain ⟨a, xs, ta, ra, ea, ⟨oa, qa, ca, na, da⟩, ia⟩ := fst_getD t i hi
    by_cases hij : i = j
    · subst hij
      rw [ea]
      refine kat_lt qa da qa da ?_
      rw [decide_eq_false (Nat.lt_irrefl _)]
      rw [decide_eq_false (by omega)] at hc
      exact lex_selfV _ 0 hc
    · obtain ⟨b, ys, tb, rb, eb, ⟨ob, qb, cb, nb, db⟩, ib⟩ := fst_getD t j hj
      have hne : L.getD i 0 ≠ L.getD j 0 := fun z => by
        rw [List.getD_eq_getElem?_getD, List.getD_eq_getElem?_getD, List.getElem?_eq_getElem (by omega), List.getElem?_eq_getElem (by omega)] at z
        exact hij ((List.getElem_inj hn).mp z)
      rw [ea, eb]
      refine kat_lt qa da qb db ?_
      rw [ia, ib, List.zip_cons_cons]
      refine kat_cons (wpAny_eqBool_int ?_)
      rw [show (L.getD i 0 == L.getD j 0) = false by simpa using hne]
      refine kat_no ?_
      cases (Value.type "int" != Value.type "tuple") && (0 : Nat) == 0 with
      | true => exact oneLt_int hc
      | false => exact kat_one _ _ (PyProof.Rows.lt_int hc)
theorem sorted_fst {l : Addr} {vs : List Value} {L : List Int} {Q : Value → Shared → Prop} (hl : s.heap.IsList l vs.toArray) (few : vs.length < 64) (t : F2 (FstIs s.heap) vs L) (hn : L.Nodup)
    (fin : ∀ p, Ar vs.length p → Srt (rk (L.map fun n => [n])) p vs.length → Q (.ref (s.heap.objs.size + 1)) { s with heap := sortedAll s.heap vs (outOf vs p).toArray }) : wpAny (model prog w) A (call (.builtin "sorted") [.ref l]) Q E s :=
  gsorted hl few (fun two h' k => asks_fst (t.imp fun _ _ q => q.kept k) hn two) fin
end
end HS
namespace L3
open PySem PySem.Spec PyProof.Rows L2
section
variable {X : Cx}
def rSortF (K : PySem.W.Frag) : List V → Hp → VK → Prop := fun xs H Q => ∃ (p : Addr) (zs : List (Addr × Int)), xs = [.ref p] ∧ SqL K H p (zs.map fun z => V.ref z.1) ∧ zs.length < 64 ∧ (∀ z ∈ zs, ∃ r, SqT K H z.1 (.int z.2 :: r)) ∧ (zs.map (·.2)).Nodup ∧
  ∀ (q : Addr) (H' : Hp) (ys : List (Addr × Int)), H q = none → Same H H' → H' q = some (.lst (ys.map fun z => V.ref z.1)) → (∀ b, b ≠ q → H' b = H b) → ys.Perm zs → ys.Pairwise (fun a b => a.2 ≤ b.2) → Q (.ref q) H'
theorem call_sortF : CallR X (.builtin "sorted") (rSortF X.K) := by
  intro pins s σ H xs us Q I rv h
  obtain ⟨p, zs, rfl, hp, hn, ht, hnd, q⟩ := h
  obtain ⟨u, rfl, ru⟩ := vals1 rv
  cases ru
  obtain ⟨its, r, pl, hz⟩ := I.list hp
  have hi := vals_rf_inv r
  subst hi
  have tt : HS.F2 (HS.FstIs s.heap) (zs.map fun z => Value.ref z.1) (zs.map (·.2)) := by
    clear hp r pl hz hn q rv hnd
    induction zs with
    | nil => exact .nil
    | cons z zs ih =>
      refine .cons ?_ (ih fun y hy => ht y (.tail _ hy))
      obtain ⟨rr, hr⟩ := ht z (.head _)
      obtain ⟨its, r1, p1, _⟩ := I.tuple hr
      cases r1 with
      | cons h1 h2 =>
        obtain ⟨tk, rfl⟩ := h1
        exact ⟨_, _, _, _, rfl, p1, rfl⟩
  have len : (zs.map fun z => Value.ref z.1).length = zs.length := List.length_map ..
  refine HS.sorted_fst pl.isList (by omega) tt hnd fun pp a1 a2 => ?_
  · rw [len] at a1 a2
    have hm : ((zs.map (·.2)).map fun n => [n]) = (zs.map fun z => (z.1, [z.2])).map (·.2) := by rw [List.map_map, List.map_map]; rfl
    have hlz : (zs.map fun z => (z.1, [z.2])).length = zs.length := List.length_map ..
    rw [hm] at a2
    rw [← hlz] at a1 a2
    obtain ⟨b1, b2⟩ := HS.srt_pairs (0, [0]) a1 a2
    rw [hlz] at a1
    have hgd : ∀ i, (zs.map fun z => (z.1, [z.2])).getD i (0, [0]) = (fun z : Addr × Int => (z.1, [z.2])) (zs.getD i (0, 0)) := fun i => by
      rw [List.getD_eq_getElem?_getD, List.getD_eq_getElem?_getD, List.getElem?_map]
      cases zs[i]? <;> rfl
    have hmp : (pp.toList.map fun i => (zs.map fun z => (z.1, [z.2])).getD i (0, [0])) = (pp.toList.map fun i => zs.getD i (0, 0)).map fun z => (z.1, [z.2]) := by
      rw [List.map_map]
      exact List.map_congr_left fun i _ => hgd i
    rw [hmp] at b1 b2
    have c1 : (pp.toList.map fun i => zs.getD i (0, 0)).Perm zs := by
      have := b1.map (fun z : Addr × List Int => (z.1, z.2.getD 0 0))
      have bk : ∀ ys : List (Addr × Int), (ys.map fun z => (z.1, [z.2])).map (fun z : Addr × List Int => (z.1, z.2.getD 0 0)) = ys := fun ys => by rw [List.map_map]; exact List.map_id _
      rw [bk, bk] at this
      exact this
    have c2 : (pp.toList.map fun i => zs.getD i (0, 0)).Pairwise (fun a b => a.2 ≤ b.2) := by
      rw [List.pairwise_map] at b2
      refine b2.imp fun {a b} h => ?_
      have h : HT.lexLt [b.2] [a.2] = false := h
      rw [HS.one_lt] at h
      have := of_decide_eq_false h
      omega
    obtain ⟨e, he⟩ := sortedAll_at s.heap (zs.map fun z => Value.ref z.1) (HS.outOf (zs.map fun z => Value.ref z.1) pp).toArray
    have hf : H (s.heap.objs.size + 1) = none := I.hok.fresh (Nat.le_succ _)
    have out : HS.outOf (zs.map fun z => Value.ref z.1) pp = (pp.toList.map fun i => zs.getD i (0, 0)).map fun z => Value.ref z.1 := by
      unfold HS.outOf
      rw [List.map_map]
      refine List.map_congr_left fun i hi => ?_
      have : i < zs.length := List.mem_range.mp (a1.mem_iff.mp hi)
      simp [List.getD_eq_getElem?_getD, this]
    have ln : (pp.toList.map fun i => zs.getD i (0, 0)).length = zs.length := c1.length_eq
    refine ⟨.ref (s.heap.objs.size + 1), _, I.laid (t' := s.toks) (o := .lst ((pp.toList.map fun i => zs.getD i (0, 0)).map fun z => V.ref z.1)) (fun b ob q => sortedAll_old q) (Nat.le_succ _)
      ⟨by rw [List.length_map, ln]; exact Nat.le_of_lt (Nat.lt_of_lt_of_le hn (by decide)), _, e, vals_rf (f := fun z : Addr × Int => z.1) _, by rw [← out]; exact he⟩, rfl, q _ _ _ hf (same_new hf) upd_same (fun b hb => upd_ne hb) c1 c2⟩
theorem fSortF (K : PySem.W.Frag) (hK : X.K = K := by rfl) : RCall X (.builtin "sorted") (rSortF K) := by subst hK; exact .mk call_sortF
end
end L3
namespace K18
open PySem L2 L3
def KeepT (H H' : Hp) : Prop := ∀ x vs, H x = some (.tup vs) → H' x = some (.tup vs)
theorem KeepT.trans {H H1 H2 : Hp} (a : KeepT H H1) (b : KeepT H1 H2) : KeepT H H2 := fun x vs e => b x vs (a x vs e)
theorem KeepT.same {H H' : Hp} (s : Same H H') : KeepT H H' := fun x vs e => s _ _ e
theorem KeepT.rm {H H' : Hp} {p : Addr} (hp : ∀ vs, H p ≠ some (.tup vs)) (s : Same (L3.rm p H) H') : KeepT H H' := fun x vs e => rm_look s e (fun z => hp vs (by rw [← z]; exact e))
theorem KeepT.upd {H : Hp} {l : Addr} {o : HO} (h : ∀ vs, H l ≠ some (.tup vs)) : KeepT H (L2.upd H l o) := fun x vs q => by
  rw [upd_ne (fun z => h vs (by rw [← z]; exact q))]; exact q
theorem not_tup {H : Hp} {p : Addr} {xs : List V} (h : H p = some (.lst xs)) : ∀ vs, H p ≠ some (.tup vs) := fun vs z => by rw [h] at z; cases z
theorem not_tupD {H : Hp} {p : Addr} {kvs : List (Key × V)} (h : H p = some (.dK kvs)) : ∀ vs, H p ≠ some (.tup vs) := fun vs z => by rw [h] at z; cases z
theorem not_tup3 {H : Hp} {p : Addr} (h : Pen3 H p) : ∀ vs, H p ≠ some (.tup vs) := fun vs z => by
  obtain ⟨a, b, c, h⟩ := h
  rw [h] at z; cases z
theorem rows_keep {H H' : Hp} (k : KeepT H H') : ∀ {tb : Tbl} {ws : List V}, Reps H ws (tb.map rwD) → Reps H' ws (tb.map rwD)
  | [], _, h => by cases h; exact .nil
  | e :: tb, _, .cons h r => by
    obtain ⟨b, c, rfl, eb, ec⟩ := rep_row h
    exact .cons (.tup (k _ _ eb) (.cons (.int _) (.cons (.tup (k _ _ ec) (Reps.ints _)) .nil))) (rows_keep k r)
theorem tree_keep {H H' : Hp} (k : KeepT H H') : ∀ {t : Tr} {v : V}, Rep H v t.d → Rep H' v t.d
  | .nil, _, h => by cases rep_nil h; exact .non
  | .node l x r, _, h => by
    obtain ⟨a, vl, vr, rfl, ea, hl, hr⟩ := rep_node h
    exact .tup (k _ _ ea) (.cons (tree_keep k hl) (.cons (.int _) (.cons (tree_keep k hr) .nil)))
def spReck (n : Nat) : Sp := fun vs H Q _ => ∃ (v : V) (t : Tr) (R : Nat) (bd rw : Addr) (wt : Int → Int) (kb : List (Key × V)) (ws : List V), vs = [v, .int (R : Int), .ref bd, .ref rw] ∧ Rep H v t.d ∧ t.ht < n ∧ t.size ≤ 60 ∧ 1 ≤ R ∧ R ≤ 100 ∧ H bd = some (.dK kb) ∧ (∀ k ∈ t.keys, valV kb (Sum.inl k : Key) = some (.int (wt k))) ∧ H rw = some (.lst ws) ∧ ws.length + t.size ≤ 100 ∧
  ∀ (b c : Addr) (H' : Hp) (ws' : List V), H b = none → H c = none → Same (rm rw H) H' → H' b = some (.tup [.int (sw wt t), .ref c]) → H' c = some (.lst ((sds R wt t).map V.int)) → H' rw = some (.lst (ws ++ ws')) → Reps H' ws' ((post R wt t).map rwD) → Q (.ref b) H'
theorem sds_at {R : Nat} {wt : Int → Int} {u : Tr} {i : Nat} (h : i < R) : ((sds R wt u).map V.int)[i]? = some (.int (sd R wt u i)) := by
  unfold sds
  rw [List.getElem?_map, List.getElem?_map, List.getElem?_range h]; rfl
section
variable {P : Program} {w : World} {K : PySem.W.Frag} {mg : Str → Option Value} {base : Heap}
theorem ok_reck {f : Addr} (F : Fd K mg "_law_reckoned" s_law_reckoned f) (T : Tx K mg) : ∀ n, Cal P w K mg base CX0 n "_law_reckoned" (spReck n) := by
  intro n
  induction n with
  | zero => exact (F.none (ps := ["_law_tree_here", "_law_room", "_law_by", "_law_rows"]) (fun _ _ _ _ _ _ us hl => L3.bind4 (fun _ _ _ _ => rfl) us hl) fun vs H Q E hh => by obtain ⟨v, t, _, _, _, _, _, _, _, _, h2, _⟩ := hh; omega)
  | succ n C_law_reckoned =>
    refine F.cal sc_law_reckoned (fun _ _ _ _ _ _ us hl => L3.bind4 (fun _ _ _ _ => rfl) us hl) (fun vs H Q E h => ?_) (fun cdv A outer s H vs Q E hr h => ?_)
    · obtain ⟨v, t, R, bd, rw, wt, kb, ws, rfl, _⟩ := h; rfl
    · obtain ⟨v, t, R, bd, rw, wt, kb, ws, rfl, hv, ht, hz, hR, hR2, ebd, hval, erw, hwl, q⟩ := h
      refine ⟨_, (bcons (sif (tcmp rIs (qv 0) qnon (nomark _)) (bone (sret (qtup (qcons qint (qcons (qop rMulL (qlst (qcons qint qnil)) (qv 1)) qnil))))) bnil)
      (bcons (sasg (qF C_law_reckoned (hr.mono (by omega)) pass0 rfl (qcons (qix (xIx K) (qv 0) qint (fun _ _ => rfl)) (qcons (qv 1) (qcons (qv 2) (qcons (qv 3) qnil))))) (gtup (n := 2) K rfl (gscons (gname (i := 4) sc_law_reckoned.nd rfl (by first | exact Or.inl rfl | exact Or.inr rfl)) (gscons (gname (i := 5) sc_law_reckoned.nd rfl (by first | exact Or.inl rfl | exact Or.inr rfl)) gsnil))))
      (bcons (sasg (qF C_law_reckoned (hr.mono (by omega)) pass0 rfl (qcons (qix (xIx K) (qv 0) qint (fun _ _ => rfl)) (qcons (qv 1) (qcons (qv 2) (qcons (qv 3) qnil))))) (gtup (n := 2) K rfl (gscons (gname (i := 6) sc_law_reckoned.nd rfl (by first | exact Or.inl rfl | exact Or.inr rfl)) (gscons (gname (i := 7) sc_law_reckoned.nd rfl (by first | exact Or.inl rfl | exact Or.inr rfl)) gsnil))))
      (bcons (sset (i := 8) sc_law_reckoned.nd rfl (by first | exact Or.inl rfl | exact Or.inr rfl) (qop rAdd (qop rAdd (qv 4) (qdget hr (qv 2) (qix (xIx K) (qv 0) qint (fun _ _ => rfl)) (fun _ _ => rfl))) (qv 6)))
      (bcons (sset (i := 9) sc_law_reckoned.nd rfl (by first | exact Or.inl rfl | exact Or.inr rfl) (qlst qnil))
      (bcons (sfor PassesOwn.never rfl (irange1 rfl T.b_range (qcons (qv 1) qnil)) (gname (i := 10) sc_law_reckoned.nd rfl (by first | exact Or.inl rfl | exact Or.inr rfl))
        (bcons (sset (i := 11) sc_law_reckoned.nd rfl (by first | exact Or.inl rfl | exact Or.inr rfl) (qop rAdd (qix (xIx K) (qv 5) qint (fun _ _ => rfl)) (qix (xIx K) (qv 7) (qv 10) (fun _ _ => rfl))))
        (bcons (sfor PassesOwn.never rfl (irange2 rfl T.b_range (qcons qint (qcons (qop rAdd (qv 10) qint) qnil))) (gname (i := 12) sc_law_reckoned.nd rfl (by first | exact Or.inl rfl | exact Or.inr rfl))
          (bone (sset (i := 11) sc_law_reckoned.nd rfl (by first | exact Or.inl rfl | exact Or.inr rfl) (qB fMin2 rfl T.b_min bt_min (qcons (qv 11) (qcons (qop rAdd (qix (xIx K) (qv 5) (qv 12) (fun _ _ => rfl)) (qix (xIx K) (qv 7) (qop rSub (qv 10) (qv 12)) (fun _ _ => rfl))) qnil))))))
        (bone (sexpr (qBm K PySem.F.plainAttrs_list PySem.F.slot_list_append PySem.F.type_list_append mAppend (qv 9) (qcons (qv 11) qnil)))))))
      (bcons (sexpr (qBm K PySem.F.plainAttrs_list PySem.F.slot_list_append PySem.F.type_list_append mAppend (qv 3) (qcons (qtup (qcons (qix (xIx K) (qv 0) qint (fun _ _ => rfl)) (qcons (qTy (fTuple K) rfl T.b_tuple bt_tuple (qcons (qv 9) qnil)) qnil))) qnil)))
      (bone (sret (qtup (qcons (qv 8) (qcons (qop rAdd (qlst (qcons (qop rAdd (qv 8) (qix (xIx K) (qv 9) (qun rNeg qint) (fun _ _ => rfl))) qnil)) (qslice (xSl K) (qv 9) onone (osome (qun rNeg qint)))) qnil)))))))))))), ?_⟩
      have hbr : bd ≠ rw := fun z => by rw [z, erw] at ebd; cases ebd
      cases t with
      | nil =>
        cases rep_nil hv
        refine ⟨_, rfl, rfl, _, rfl, ?_⟩
        refine iteT ?_
        refine ⟨(show 1 ≤ sizeLine by decide), fun l1 H1 n1 s1 e1 _ => ?_⟩
        refine ⟨_, rfl, l1, (R : Int), _, rfl, rfl, e1, by omega, by omega, sizeBig' (by simp; omega), fun l2 H2 n2 s2 e2 _ => ?_⟩
        refine ⟨(show 2 ≤ sizeLine by decide), fun l3 H3 n3 s3 e3 _ => ?_⟩
        have s13 := s1.trans (s2.trans s3)
        refine q l3 l2 H3 [] ((s1.trans s2).free n3) (s1.free n2) (rm_same.trans s13) e3 ?_ (by rw [List.append_nil]; exact s13 _ _ erw) .nil
        rw [s3 _ _ e2, Int.toNat_natCast, ← zeros]
        unfold sds
        rw [List.map_congr_left fun j _ => sd_nil R wt j]
      | node l k r =>
        obtain ⟨a, vl, vr, rfl, ea, hl, hr'⟩ := rep_node hv
        simp only [Tr.ht] at ht
        simp only [Tr.size] at hz hwl
        refine ⟨_, rfl, rfl, _, rfl, ?_⟩
        refine iteF ?_
        refine ⟨_, rfl, a, _, 0, _, rfl, rfl, .inr (SqT.of ea), atI_nat (j := 0) rfl, _, rfl, _, rfl, _, rfl, vl, l, R, bd, rw, wt, kb, ws, rfl, hl, by omega, by omega, hR, hR2, ebd, (fun x hx => hval x (by simp [Tr.keys, hx])), erw, by omega, fun b1 c1 H1 w1 nb1 nc1 s1 eb1 ec1 er1 g1 => ?_⟩
        refine ⟨b1, _, rfl, SqT.of eb1, rfl, _, _, rfl, _, _, rfl, rfl, ?_⟩
        have K1 : KeepT H H1 := KeepT.rm (not_tup erw) s1
        have hw1 := g1.length
        rw [List.length_map] at hw1
        have pl : ∀ u : Tr, (post R wt u).length = u.size := fun u => by
          have := (post_perm R wt u).length_eq
          rw [List.length_map, Tr.keys_length] at this
          exact this
        rw [pl] at hw1
        refine ⟨_, rfl, a, _, 2, _, rfl, rfl, .inr (SqT.of (K1 _ _ ea)), atI_nat (j := 2) rfl, _, rfl, _, rfl, _, rfl, vr, r, R, bd, rw, wt, kb, ws ++ w1, rfl, tree_keep K1 hr', by omega, by omega, hR, hR2, rm_look s1 ebd hbr, (fun x hx => hval x (by simp [Tr.keys, hx])), er1, by rw [List.length_append]; omega, fun b2 c2 H2 w2 nb2 nc2 s2 eb2 ec2 er2 g2 => ?_⟩
        refine ⟨b2, _, rfl, SqT.of eb2, rfl, _, _, rfl, _, _, rfl, rfl, ?_⟩
        have K2 : KeepT H1 H2 := KeepT.rm (not_tup er1) s2
        have hw2 := g2.length
        rw [List.length_map, pl] at hw2
        have s02 : Same (rm rw H) H2 := rm_trans s1 s2
        have hc1 : c1 ≠ rw := fun z => by rw [z, erw] at nc1; cases nc1
        have hc2 : c2 ≠ rw := fun z => by rw [z, er1] at nc2; cases nc2
        have ec12 : H2 c1 = some (.lst ((sds R wt l).map V.int)) := rm_look s2 ec1 hc1
        have ea2 := K2 _ _ (K1 _ _ ea)
        refine ⟨_, rfl, _, rfl, _, rfl, a, _, 1, _, rfl, rfl, .inr (SqT.of ea2), atI_nat (j := 1) rfl, bd, .int (wt k), rfl, dget (rm_look s2 (rm_look s1 ebd hbr) hbr) (hval k (by simp [Tr.keys])), _, rfl, ?_⟩
        refine ⟨(show 0 ≤ sizeLine by decide), fun l3 H3 n3 s3 e3 _ => ?_⟩
        have hsw : sw wt l + wt k + sw wt r = sw wt (.node l k r) := by rw [sw_node]; omega
        refine ⟨_, rfl, (R : Int), rfl, by omega, by omega, for_range (n := R) (fun i σ H' => ∃ z10 z11 z12, σ = [some (.ref a), some (.int (R : Int)), some (.ref bd), some (.ref rw), some (.int (sw wt l)), some (.ref c1), some (.int (sw wt r)), some (.ref c2), some (.int (sw wt l + wt k + sw wt r)), some (.ref l3), z10, z11, z12] ∧ Same H2 H' ∧ H' l3 = some (.lst (((List.range i).map (cT R wt (.node l k r))).map V.int)))
          ⟨none, none, none, rfl, s3, e3⟩ ?_ ?_⟩
        · rintro i σ H4 hi ⟨z10, z11, z12, rfl, s4, e4⟩
          rw [Int.zero_add]
          refine ⟨_, rfl, c1, _, 0, _, rfl, rfl, .inl (SqL.of (s4 _ _ ec12)), atI_nat (j := 0) (sds_at (by omega)), _, rfl, _, rfl, c2, _, i, _, rfl, rfl, .inl (SqL.of (s4 _ _ ec2)), atI_nat (j := i) (sds_at hi), ?_⟩
          refine ⟨_, rfl, 1, (i : Int) + 1, rfl, ⟨by omega, by omega, by omega, by omega⟩, for_range (lo := 1) (n := ((i : Int) + 1 - 1).toNat) (fun j σ H' => ∃ z12, σ = [some (.ref a), some (.int (R : Int)), some (.ref bd), some (.ref rw), some (.int (sw wt l)), some (.ref c1), some (.int (sw wt r)), some (.ref c2), some (.int (sw wt l + wt k + sw wt r)), some (.ref l3), some (.int (i : Int)), some (.int (minI ((sums (sd R wt l) (sd R wt r) i).take (j + 1)))), z12] ∧ H' = H4)
            ⟨z12, ?_, rfl⟩ ?_ ?_⟩
          · have : (sums (sd R wt l) (sd R wt r) i).take (0 + 1) = [sd R wt l 0 + sd R wt r i] := by
              unfold sums
              rw [List.range_succ_eq_map, List.map_cons]
              simp
            rw [this]; rfl
          · rintro j σ H5 hj ⟨z, rfl, rfl⟩
            have hj' : j + 1 ≤ i := by omega
            refine ⟨_, rfl, _, rfl, _, rfl, c1, _, _, _, rfl, rfl, .inl (SqL.of (s4 _ _ ec12)), (by rw [show (1 : Int) + (j : Int) = ((j + 1 : Nat) : Int) by omega]; exact atI_nat (j := j + 1) (sds_at (by omega))), ?_⟩
            refine ⟨_, rfl, _, rfl, _, rfl, _, _, rfl, rfl, c2, _, _, _, rfl, rfl, .inl (SqL.of (s4 _ _ ec2)), (by rw [show (i : Int) - (1 + (j : Int)) = ((i - (j + 1) : Nat) : Int) by omega]; exact atI_nat (j := i - (j + 1)) (sds_at (by omega))), ?_⟩
            refine ⟨_, _, rfl, ?_⟩
            refine ⟨some (.int (1 + (j : Int))), ?_, rfl⟩
            have hn : (sums (sd R wt l) (sd R wt r) i).take (j + 1) ≠ [] := fun z => by
              have := congrArg List.length z
              rw [List.length_take, sums_len] at this
              simp at this
            have hg : (sums (sd R wt l) (sd R wt r) i)[j + 1]? = some (sd R wt l (j + 1) + sd R wt r (i - (j + 1))) := by
              rw [List.getElem?_eq_getElem (by rw [sums_len]; omega), sums_get]
            have hs : minI ((sums (sd R wt l) (sd R wt r) i).take (j + 1 + 1)) = if sd R wt l (j + 1) + sd R wt r (i - (j + 1)) < minI ((sums (sd R wt l) (sd R wt r) i).take (j + 1)) then sd R wt l (j + 1) + sd R wt r (i - (j + 1)) else minI ((sums (sd R wt l) (sd R wt r) i).take (j + 1)) := by
              rw [List.take_add_one, hg]
              show minI (_ ++ [_]) = _
              rw [minI_snoc _ _ hn]
              split <;> omega
            rw [hs]; rfl
          · rintro σ H5 ⟨z, rfl, rfl⟩
            have hfull : (sums (sd R wt l) (sd R wt r) i).take (((i : Int) + 1 - 1).toNat + 1) = sums (sd R wt l) (sd R wt r) i := List.take_of_length_le (by rw [sums_len]; omega)
            rw [hfull]
            refine ⟨_, rfl, .inl ⟨rfl, _, SqL.of e4⟩, _, rfl, l3, _, _, rfl, rfl, e4, sizeBig (by rw [List.length_map, List.length_map, List.length_range]; omega), ?_⟩
            refine ⟨_, _, _, rfl, same_upd s4 n3, ?_⟩
            rw [upd_same, List.range_succ, List.map_append, List.map_append]; rfl
        · rintro σ H4 ⟨z10, z11, z12, rfl, s4, e4⟩
          have e4 : H4 l3 = some (.lst ((costs R wt (.node l k r)).map V.int)) := e4
          have er4 := s4 _ _ er2
          have ea4 := s4 _ _ ea2
          refine ⟨_, rfl, .inl ⟨rfl, _, SqL.of er4⟩, _, rfl, a, _, 1, _, rfl, rfl, .inr (SqT.of ea4), atI_nat (j := 1) rfl, _, rfl, l3, _, rfl, .inl ⟨SqL.of e4, fun t5 H5 n5 s5 e5 _ => ?_⟩⟩
          refine ⟨(show 2 ≤ sizeLine by decide), fun p6 H6 n6 s6 e6 _ => ?_⟩
          have s46 := s5.trans s6
          refine ⟨rw, _, _, rfl, rfl, s46 _ _ er4, sizeBig (by rw [List.length_append, List.length_append]; omega), ?_⟩
          have hrl : rw ≠ l3 := fun z => by rw [z, n3] at er2; cases er2
          have K7 : KeepT H6 (upd H6 rw (.lst (ws ++ w1 ++ w2 ++ [.ref p6]))) := KeepT.upd (not_tup (s46 _ _ er4))
          have e7 : upd H6 rw (.lst (ws ++ w1 ++ w2 ++ [.ref p6])) l3 = some (.lst ((costs R wt (.node l k r)).map V.int)) := by rw [upd_ne hrl.symm]; exact s46 _ _ e4
          have r7 : upd H6 rw (.lst (ws ++ w1 ++ w2 ++ [.ref p6])) rw = some (.lst (ws ++ (w1 ++ w2 ++ [.ref p6]))) := by rw [upd_same]; simp
          have s27 : Same (rm rw H2) (upd H6 rw (.lst (ws ++ w1 ++ w2 ++ [.ref p6]))) := fun x o hx => by
            have hxr : x ≠ rw := fun z => by rw [z, rm_self] at hx; cases hx
            rw [rm_ne hxr] at hx
            rw [upd_ne hxr]
            exact s46 _ _ (s4 _ _ hx)
          have g7 : Reps (upd H6 rw (.lst (ws ++ w1 ++ w2 ++ [.ref p6]))) (w1 ++ w2 ++ [.ref p6]) ((post R wt (.node l k r)).map rwD) := by
            rw [post, List.map_append, List.map_append]
            refine ((rows_keep ((K2.trans (KeepT.same (s4.trans s46))).trans K7) g1).append (rows_keep ((KeepT.same (s4.trans s46)).trans K7) g2)).append (.cons ?_ .nil)
            exact .tup (K7 _ _ e6) (.cons (.int _) (.cons (.tup (K7 _ _ (s6 _ _ e5)) (Reps.ints _)) .nil))
          have s07 := rm_trans s02 s27
          generalize upd H6 rw (.lst (ws ++ w1 ++ w2 ++ [.ref p6])) = H7 at *
          rw [hsw]
          obtain ⟨m, rfl⟩ : ∃ m, R = m + 1 := ⟨R - 1, by omega⟩
          rw [costs_snoc, List.map_append, List.map_singleton] at e7
          refine ⟨_, rfl, _, rfl, _, rfl, _, rfl, l3, _, _, _, rfl, rfl, .inl (SqL.of e7), L3.atI_last _ _, ?_⟩
          refine ⟨(show 1 ≤ sizeLine by decide), fun l8 H8 n8 s8 e8 _ => ?_⟩
          refine ⟨_, rfl, _, rfl, _, rfl, l3, _, rfl, SqL.of (s8 _ _ e7), fun l9 H9 n9 s9 e9 _ => ?_⟩
          rw [cut_init] at e9
          refine ⟨_, _, s9 _ _ e8, e9, sizeBig' (by simp; omega), fun la Ha na sa ea' _ => ?_⟩
          refine ⟨(show 2 ≤ sizeLine by decide), fun lb Hb nb sb eb' _ => ?_⟩
          have s7b := s8.trans (s9.trans (sa.trans sb))
          have fr : ∀ x, (H7 x = none → H x = none) := fun x hx => by
            have hxr : x ≠ rw := fun z => by rw [z, r7] at hx; cases hx
            cases e : H x with
            | none => rfl
            | some o => rw [s07 x o (by rw [rm_ne hxr]; exact e)] at hx; cases hx
          refine q lb la Hb (w1 ++ w2 ++ [.ref p6]) (fr _ ((s8.trans (s9.trans sa)).free nb)) (fr _ ((s8.trans s9).free na)) (s07.trans s7b) eb' ?_ (s7b _ _ r7) (g7.mono s7b)
          rw [sb _ _ ea', sds_cons]; rfl
end
end K18
namespace K18
open PySem L2 L3
theorem upsL_len (t : Tr) (u : Option Int) : (upsL t u).length = t.size := by
  have := (upsL_perm t u).length_eq
  rw [List.length_map, List.length_map, Tr.keys_length] at this
  exact this
def spLUps (n : Nat) : Sp := fun vs H Q _ => ∃ (v : V) (t : Tr) (u : Option Int) (d : Addr) (kvs : List (Key × V)), vs = [v, vO u, .ref d] ∧ Rep H v t.d ∧ t.ht < n ∧ H d = some (.dK kvs) ∧ kvs.length + t.size ≤ 100 ∧ ((kvs ++ upsL t u).map (·.1)).Nodup ∧
  ∀ H', Same (rm d H) H' → H' d = some (.dK (kvs ++ upsL t u)) → Q .non H'
def spPageOf : Sp := fun vs H Q _ => ∃ (a kb : Addr) (R : Nat) (bs : List Addr) (L : List (List Int)) (xs : List Int), vs = [.ref a, .ref kb, .int (R : Int)] ∧ H a = some (.lst (bs.map V.ref)) ∧ H kb = some (.lst (xs.map V.int)) ∧ Pgs H bs L ∧ L.flatten.Nodup ∧ L.flatten.length ≤ 60 ∧ L.flatten.length = xs.length ∧ (∀ x ∈ L.flatten, x ∈ xs) ∧ (∀ p ∈ L, p.length ≤ R) ∧
  ∀ d H' kvs, H d = none → Same H H' → H' d = some (.dK kvs) → kvs.map (·.1) = L.flatten.map Sum.inl → (∀ y, valV kvs (Sum.inl y : Key) = (numN L L.length y).map (fun n : Nat => V.int (n : Int))) → Q (.ref d) H'
theorem flat_sub (L : List (List Int)) (i : Nat) : (L.take i).flatten.Sublist L.flatten := by
  have e : L.flatten = (L.take i).flatten ++ (L.drop i).flatten := by rw [← List.flatten_append, List.take_append_drop]
  rw [e]
  exact List.sublist_append_left _ _
theorem flat_at {L : List (List Int)} {i : Nat} {q : List Int} (h : L[i]? = some q) (hn : L.flatten.Nodup) : ((L.take i).flatten ++ q).Nodup ∧ (L.take (i + 1)).flatten = (L.take i).flatten ++ q := by
  have e : (L.take (i + 1)).flatten = (L.take i).flatten ++ q := by rw [List.take_add_one, h, List.flatten_append]; simp
  refine ⟨?_, e⟩
  rw [← e]
  exact List.Nodup.sublist (flat_sub L (i + 1)) hn
section
variable {P : Program} {w : World} {K : PySem.W.Frag} {mg : Str → Option Value} {base : Heap}
theorem ok_lups {f : Addr} (F : Fd K mg "_law_ups" s_law_ups f) (T : Tx K mg) : ∀ n, Cal P w K mg base CX0 n "_law_ups" (spLUps n) := by
  intro n
  induction n with
  | zero => exact (F.none (ps := ["_law_tree_here", "_law_up", "_law_ups_here"]) (fun _ _ _ _ _ _ us hl => L3.bind3 (fun _ _ _ => rfl) us hl) fun vs H Q E hh => by obtain ⟨v, t, _, _, _, _, _, h2, _⟩ := hh; omega)
  | succ n C_law_ups =>
    refine F.cal sc_law_ups (fun _ _ _ _ _ _ us hl => L3.bind3 (fun _ _ _ => rfl) us hl) (fun vs H Q E h => ?_) (fun cdv A outer s H vs Q E hr h => ?_)
    · obtain ⟨v, t, u, d, kvs, rfl, _⟩ := h; rfl
    · obtain ⟨v, t, u, d, kvs, rfl, hv, ht, ed, hl, hn, q⟩ := h
      refine ⟨_, (bone (sif (tcmp rIsNot (qv 0) qnon (nomark _)) (bcons (sdput hr (qv 2) (qix (xIx K) (qv 0) qint (fun _ _ => rfl)) (qv 1) rfl)
        (bcons (sexpr (qF C_law_ups (hr.mono (by omega)) pass0 rfl (qcons (qix (xIx K) (qv 0) qint (fun _ _ => rfl)) (qcons (qix (xIx K) (qv 0) qint (fun _ _ => rfl)) (qcons (qv 2) qnil)))))
        (bone (sexpr (qF C_law_ups (hr.mono (by omega)) pass0 rfl (qcons (qix (xIx K) (qv 0) qint (fun _ _ => rfl)) (qcons (qix (xIx K) (qv 0) qint (fun _ _ => rfl)) (qcons (qv 2) qnil)))))))) bnil)), ?_⟩
      cases t with
      | nil =>
        cases rep_nil hv
        refine ⟨_, rfl, rfl, _, rfl, ?_⟩
        refine iteF ?_
        exact q H rm_same (by rw [ed]; simp [upsL])
      | node l k r =>
        obtain ⟨a, vl, vr, rfl, ea, hlv, hrv⟩ := rep_node hv
        simp only [Tr.ht] at ht
        simp only [Tr.size] at hl
        rw [upsL] at hn
        have hnew : valV kvs (Sum.inl k : Key) = none := valV_none' (fun hm => by
          rw [List.map_append, List.nodup_append] at hn
          exact hn.2.2 _ hm _ (by rw [List.map_cons]; exact .head _) rfl)
        refine ⟨_, rfl, rfl, _, rfl, ?_⟩
        refine iteT ?_
        refine ⟨_, rfl, _, rfl, _, rfl, a, _, 1, _, rfl, rfl, .inr (SqT.of ea), atI_nat (j := 1) rfl, d, _, rfl, DPut.k (k := (Sum.inl k : Key)) ed (sizeBig (by omega)), ?_⟩
        rw [putK_new _ hnew]
        have K1 : KeepT H (upd H d (.dK (kvs ++ [((Sum.inl k : Key), vO u)]))) := KeepT.upd (not_tupD ed)
        have e1 : upd H d (.dK (kvs ++ [((Sum.inl k : Key), vO u)])) d = some (.dK (kvs ++ [((Sum.inl k : Key), vO u)])) := upd_same
        have s1 : Same (rm d H) (upd H d (.dK (kvs ++ [((Sum.inl k : Key), vO u)]))) := fun x o hx => by
          have hxd : x ≠ d := fun z => by rw [z, rm_self] at hx; cases hx
          rw [rm_ne hxd] at hx
          rw [upd_ne hxd]; exact hx
        generalize upd H d (.dK (kvs ++ [((Sum.inl k : Key), vO u)])) = H1 at *
        have hn2 : (((kvs ++ [((Sum.inl k : Key), vO u)]) ++ (upsL l (some k) ++ upsL r (some k))).map (·.1)).Nodup := by simpa using hn
        rw [← List.append_assoc, List.map_append] at hn2
        refine ⟨_, rfl, a, _, 0, _, rfl, rfl, .inr (SqT.of (K1 _ _ ea)), atI_nat (j := 0) rfl, _, rfl, a, _, 1, _, rfl, rfl, .inr (SqT.of (K1 _ _ ea)), atI_nat (j := 1) rfl, _, rfl, vl, l, some k, d, _, rfl, tree_keep K1 hlv, by omega, e1, by simp; omega, (List.nodup_append.mp hn2).1, fun H2 s2 e2 => ?_⟩
        have K2 : KeepT H1 H2 := KeepT.rm (not_tupD e1) s2
        have K02 := K1.trans K2
        have hll := upsL_len l (some k)
        rw [← List.map_append] at hn2
        refine ⟨_, rfl, a, _, 2, _, rfl, rfl, .inr (SqT.of (K02 _ _ ea)), atI_nat (j := 2) rfl, _, rfl, a, _, 1, _, rfl, rfl, .inr (SqT.of (K02 _ _ ea)), atI_nat (j := 1) rfl, _, rfl, vr, r, some k, d, _, rfl, tree_keep K02 hrv, by omega, e2, by simp; omega, hn2, fun H3 s3 e3 => ?_⟩
        refine q H3 (rm_trans (rm_trans s1 s2) s3) ?_
        rw [e3, upsL]; simp
theorem ok_pageof {f : Addr} (F : Fd K mg "_law_page_of" s_law_page_of f) (T : Tx K mg) : Cal P w K mg base CX0 1 "_law_page_of" spPageOf := by
  refine F.cal sc_law_page_of (fun _ _ _ _ _ _ us hl => L3.bind3 (fun _ _ _ => rfl) us hl) (fun vs H Q E h => ?_) (fun cdv A outer s H vs Q E hr h => ?_)
  · obtain ⟨a, kb, R, bs, L, xs, rfl, _⟩ := h; rfl
  · obtain ⟨a, kb, R, bs, L, xs, rfl, ea, ekb, hg, hfn, hfl, hfx, hin, hps, q⟩ := h
    have hgl := hg.len
    refine ⟨_, (bcons (sset (i := 3) sc_law_page_of.nd rfl (by first | exact Or.inl rfl | exact Or.inr rfl) qdict)
      (bcons (sfor PassesOwn.never rfl (ienum K rfl T.b_enumerate (qcons (qv 0) qnil)) (gtup (n := 2) K rfl (gscons (gname (i := 4) sc_law_page_of.nd rfl (by first | exact Or.inl rfl | exact Or.inr rfl)) (gscons (gname (i := 5) sc_law_page_of.nd rfl (by first | exact Or.inl rfl | exact Or.inr rfl)) gsnil)))
        (bcons (sif (QW.tst (wor (tnot (ttru K (qB (fIsi K) rfl T.b_isinstance bt_isinstance (qcons (qv 5) (qcons (qty rfl T.b_list bt_list) qnil))) (fun _ => rfl))) (wor1 (tcmp rGt (qB (fLen K) rfl T.b_len bt_len (qcons (qv 5) qnil)) (qv 2) (nomark _))))) (bone (sret qnon)) bnil)
        (bone (sfor PassesOwn.never rfl (iseq K (qv 5)) (gname (i := 6) sc_law_page_of.nd rfl (by first | exact Or.inl rfl | exact Or.inr rfl))
          (bcons (sif (QW.tst (wor (tdin hr (qv 6) (qv 3)) (wor1 (tcmp (rNotInn K) (qv 6) (qv 1) (by with_unfolding_all rfl))))) (bone (sret qnon)) bnil)
          (bone (sdput hr (qv 3) (qv 6) (qv 4) rfl)))))))
      (bcons (sif (tcmp rLt (qB fLenD rfl T.b_len bt_len (qcons (qv 3) qnil)) (qB (fLen K) rfl T.b_len bt_len (qcons (qv 1) qnil)) (nomark _)) (bone (sret qnon)) bnil)
      (bone (sret (qv 3)))))), ?_⟩
    refine fun d H1 n1 s1 e1 _ => ?_
    refine ⟨_, rfl, a, _, rfl, s1 _ _ ea, for_enum (xs := bs.map V.ref) (fun i σ H' => ∃ z1 z2 z3 kvs, σ = [some (.ref a), some (.ref kb), some (.int (R : Int)), some (.ref d), z1, z2, z3] ∧ Same H H' ∧ H' d = some (.dK kvs) ∧ kvs.map (·.1) = ((L.take i).flatten).map Sum.inl ∧ ∀ y, valV kvs (Sum.inl y : Key) = (numN L i y).map (fun n : Nat => V.int (n : Int))) ⟨none, none, none, [], rfl, s1, e1, rfl, fun y => rfl⟩ (fun i σ H' _ hh => by obtain ⟨_, _, _, _, _, s', _⟩ := hh; exact s' _ _ ea) ?_ ?_⟩
    · rintro i x σ H2 T1 hx ⟨z1, z2, z3, kvs, rfl, s2, e2, hk2, hv2⟩ hT
      rw [List.getElem?_map] at hx
      obtain ⟨b, hbx, rfl⟩ := Option.map_eq_some_iff.mp hx
      obtain ⟨qi, hqi, eb⟩ := hg.at hbx
      obtain ⟨hnq, htk⟩ := flat_at hqi hfn
      have hdT : d ≠ T1 := fun z => by rw [z, hT] at e2; cases e2
      refine ⟨T1, _, rfl, SqT.of upd_same, rfl, _, _, rfl, _, _, rfl, rfl, ?_⟩
      have s3 : Same H (upd H2 T1 (.tup [.int i, .ref b])) := same_upd s2 (s2.free hT)
      have e3 : upd H2 T1 (.tup [.int i, .ref b]) d = some (.dK kvs) := by rw [upd_ne hdT]; exact e2
      generalize upd H2 T1 (.tup [.int i, .ref b]) = H3 at *
      have rb : Rep H3 (.ref b) (.lst (qi.map D.int)) := rep_ints (s3 _ _ eb)
      refine ⟨_, rfl, .ref b, _, _, _, rfl, rb.ty, kit_list K _, _, rfl, ?_⟩
      refine iteF ?_
      have hqR := hps qi (List.mem_of_getElem? hqi)
      refine ⟨_, rfl, b, _, rfl, .inl (SqL.of (s3 _ _ eb)), _, rfl, _, _, rfl, rfl, _, rfl, ?_⟩
      rw [decide_eq_false (by rw [List.length_map]; omega)]
      refine iteF ?_
      refine ⟨_, rfl, b, rfl, .inl ⟨⟨_, SqL.of (s3 _ _ eb)⟩, for_list (xs := qi.map V.int) (fun j σ H' => ∃ z kvs, σ = [some (.ref a), some (.ref kb), some (.int (R : Int)), some (.ref d), some (.int (i : Int)), some (.ref b), z] ∧ Same H H' ∧ H' d = some (.dK kvs) ∧ kvs.map (·.1) = ((L.take i).flatten ++ qi.take j).map Sum.inl ∧ ∀ y, valV kvs (Sum.inl y : Key) = (if y ∈ qi.take j then some i else numN L i y).map (fun n : Nat => V.int (n : Int)))
        ⟨z3, kvs, rfl, s3, e3, by simpa using hk2, fun y => by simpa using hv2 y⟩ (fun j σ H' _ hh => by obtain ⟨_, _, _, s', _⟩ := hh; exact SqL.of (s' _ _ eb)) ?_ ?_⟩⟩
      · rintro j y σ H4 hy ⟨z, kvs4, rfl, s4, e4, hk4, hv4⟩
        rw [List.getElem?_map] at hy
        obtain ⟨k, hk, rfl⟩ := Option.map_eq_some_iff.mp hy
        have hjl := (List.getElem?_eq_some_iff.mp hk).1
        have hlen4 : kvs4.length ≤ 60 := by
          have h1 := congrArg List.length hk4
          rw [List.length_map, List.length_map] at h1
          have h2 : ((L.take i).flatten ++ qi.take j).length ≤ ((L.take (i + 1)).flatten).length := by
            rw [htk, List.length_append, List.length_append, List.length_take]; omega
          have h3 : ((L.take (i + 1)).flatten).length ≤ L.flatten.length := List.Sublist.length_le (flat_sub L (i + 1))
          omega
        have hnew : valV kvs4 (Sum.inl k : Key) = none := valV_none' (by
          rw [hk4]
          intro hm
          obtain ⟨k', hk', e⟩ := List.mem_map.mp hm
          cases e
          have : ((L.take i).flatten ++ qi.take j ++ [k]).Nodup := by
            have hs : ((L.take i).flatten ++ qi.take (j + 1)).Nodup := List.Nodup.sublist (List.Sublist.append (List.Sublist.refl _) (List.take_sublist _ _)) hnq
            rw [List.take_add_one, hk, ← List.append_assoc] at hs
            exact hs
          rw [List.nodup_append] at this
          exact this.2.2 k hk' k (by simp) rfl)
        have hkin : k ∈ xs := hin k (List.mem_flatten.mpr ⟨qi, List.mem_of_getElem? hqi, List.mem_of_getElem? hk⟩)
        have hdg : DGet H4 d (.int k) none := by have := DGet.k (k := (Sum.inl k : Key)) e4; rw [hnew] at this; exact this
        refine ⟨_, rfl, _, rfl, d, none, rfl, hdg, _, rfl, ?_⟩
        refine iteF ?_
        refine ⟨_, rfl, _, rfl, kb, _, rfl, .inl (SqL.of (s4 _ _ ekb)), rfl, flat_ints xs, _, rfl, ?_⟩
        rw [inV_ints, decide_eq_true hkin]
        refine iteF ?_
        refine ⟨_, rfl, _, rfl, _, rfl, d, _, rfl, .inl ⟨kvs4, Sum.inl k, e4, rfl, sizeBig (by omega), rfl⟩, ?_⟩
        refine ⟨_, putK kvs4 (Sum.inl k : Key) (.int (i : Int)), rfl, same_upd s4 n1, upd_same, ?_, fun y => ?_⟩
        · rw [putK_new _ hnew, List.map_append, hk4, List.take_add_one, hk]
          simp
        · rw [valV_put, List.take_add_one, hk]
          by_cases hyk : y = k
          · subst hyk
            rw [if_pos rfl, if_pos (by simp)]; rfl
          · rw [if_neg (fun z => hyk (Sum.inl.inj z)), hv4 y]
            have : (y ∈ qi.take j ++ (some k).toList) ↔ y ∈ qi.take j := by simp [hyk]
            by_cases hm : y ∈ qi.take j
            · rw [if_pos hm, if_pos (this.mpr hm)]
            · rw [if_neg hm, if_neg (fun z => hm (this.mp z))]
      · rintro σ H4 ⟨z, kvs4, rfl, s4, e4, hk4, hv4⟩
        rw [List.length_map] at hk4 hv4
        rw [List.take_length] at hv4 hk4
        refine ⟨_, _, _, kvs4, rfl, s4, e4, by rw [hk4, htk], fun y => ?_⟩
        rw [hv4 y, numN, List.getD_eq_getElem?_getD, hqi]; rfl
    · rintro σ H2 ⟨z1, z2, z3, kvs, rfl, s2, e2, hk2, hv2⟩
      rw [List.length_map, hgl] at hv2 hk2
      rw [List.take_length] at hk2
      have hkl : kvs.length = xs.length := by
        have := congrArg List.length hk2
        rw [List.length_map, List.length_map] at this
        omega
      refine ⟨_, rfl, d, kvs, rfl, .inl e2, _, rfl, kb, _, rfl, .inl (SqL.of (s2 _ _ ekb)), _, _, rfl, rfl, _, rfl, ?_⟩
      rw [decide_eq_false (by rw [List.length_map]; omega)]
      refine iteF ?_
      exact ⟨_, rfl, q d H2 kvs n1 s2 e2 hk2 hv2⟩
end
end K18
namespace K18
open PySem L2 L3
def mkD (M : List Nat) : List (Key × V) := M.map fun m : Nat => ((Sum.inl (m : Int) : Key), V.bl true)
theorem mk_val (M : List Nat) (m : Nat) : valV (mkD M) (Sum.inl (m : Int) : Key) = if m ∈ M then some (.bl true) else none := by
  induction M with
  | nil => rfl
  | cons x M ih =>
    show valV ((Sum.inl (x : Int), V.bl true) :: mkD M) _ = _
    by_cases hx : x = m
    · subst hx
      rw [valV_pos rfl, if_pos (.head _)]
    · rw [valV_neg (fun z => hx (by have := Sum.inl.inj z; omega)), ih]
      have : (m ∈ x :: M) ↔ m ∈ M := by
        rw [List.mem_cons]
        constructor
        · rintro (h | h)
          · exact absurd h.symm hx
          · exact h
        · exact .inr
      by_cases hm : m ∈ M
      · rw [if_pos hm, if_pos (this.mpr hm)]
      · rw [if_neg hm, if_neg (fun z => hm (this.mp z))]
theorem mk_put (M : List Nat) (m : Nat) : putK (mkD M) (Sum.inl (m : Int) : Key) (.bl true) = mkD (M ++ if m ∈ M then [] else [m]) := by
  by_cases hm : m ∈ M
  · rw [if_pos hm, List.append_nil]
    unfold putK
    have hany : ((mkD M).any fun kv => decide (kv.1 = (Sum.inl (m : Int) : Key))) = true := List.any_eq_true.mpr ⟨((Sum.inl (m : Int) : Key), V.bl true), List.mem_map.mpr ⟨m, hm, rfl⟩, by simp⟩
    rw [if_pos hany]
    refine (List.map_congr_left fun kv hkv => ?_).trans (List.map_id _)
    obtain ⟨y, _, rfl⟩ := List.mem_map.mp hkv
    split <;> rfl
  · rw [if_neg hm, putK_new _ (by rw [mk_val, if_neg hm])]
    unfold mkD
    rw [List.map_append]; rfl
theorem acc_len (h : Int → Nat) : ∀ (ks : List Int) (M : List Nat), (acc h M ks).length ≤ M.length + ks.length
  | [], M => Nat.le_refl _
  | k :: ks, M => by
    have h1 := acc_len h ks (meO h M k)
    have h2 : (meO h M k).length ≤ M.length + 1 := by unfold meO; rw [List.length_append]; split <;> simp
    show (acc h (meO h M k) ks).length ≤ _
    rw [List.length_cons]; omega
theorem num_at {L : List (List Int)} (hn : L.flatten.Nodup) {y : Int} (hy : y ∈ L.flatten) {i : Nat} {q : List Int} (hq : L[i]? = some q) : y ∈ q ↔ numP L y = i := by
  constructor
  · intro h
    exact numP_is hn (by rw [List.getD_eq_getElem?_getD, hq]; exact h)
  · intro h
    have := (numP_lt hy).2
    rw [h, List.getD_eq_getElem?_getD, hq] at this
    exact this
def preK : Tr → List Int
  | .nil => []
  | .node l k r => k :: (preK l ++ preK r)
theorem upsL_keys : ∀ (t : Tr) (u : Option Int), (upsL t u).map (·.1) = (preK t).map Sum.inl
  | .nil, _ => rfl
  | .node l k r, u => by rw [upsL, preK, List.map_cons, List.map_cons, List.map_append, List.map_append, upsL_keys l, upsL_keys r]
theorem preK_perm : ∀ t : Tr, (preK t).Perm t.keys
  | .nil => .refl _
  | .node l k r => by
    rw [preK, Tr.keys, List.append_assoc]
    exact (((preK_perm l).append (preK_perm r)).cons k).trans List.perm_middle.symm
theorem perm_sum {a b : List Int} (h : a.Perm b) : a.sum = b.sum := by
  induction h with
  | nil => rfl
  | cons x _ ih => rw [List.sum_cons, List.sum_cons, ih]
  | swap x y l => rw [List.sum_cons, List.sum_cons, List.sum_cons, List.sum_cons]; omega
  | trans _ _ h1 h2 => exact h1.trans h2
def dr (R : Nat) (wt : Int → Int) (t : Tr) (x : Int) : Int := wt x * (1 + gT R wt (one x) t (R - 1))
theorem dr_sum (R : Nat) (wt : Int → Int) {t : Tr} (hn : t.keys.Nodup) : ((preK t).map (dr R wt t)).sum = least R wt t := by
  rw [← sum_least R wt hn]
  exact perm_sum ((preK_perm t).map _)
def spDear : Sp := fun vs H Q _ => ∃ (a ud pd bd : Addr) (R : Nat) (wt : Int → Int) (t : Tr) (bs : List Addr) (L : List (List Int)) (kp kb : List (Key × V)), vs = [.ref a, .ref ud, .ref pd, .ref bd] ∧ H a = some (.lst (bs.map V.ref)) ∧ Pgs H bs L ∧ t.ord none none ∧ t.size ≤ 60 ∧ 1 ≤ R ∧ R ≤ 100 ∧ Laid (tb R wt t (R - 1)) t L ∧ Rd H ud (.dK (upsL t none)) ∧ H pd = some (.dK kp) ∧ (∀ x ∈ t.keys, valV kp (Sum.inl x : Key) = some (.int (numP L x : Int))) ∧ H bd = some (.dK kb) ∧ (∀ x ∈ t.keys, valV kb (Sum.inl x : Key) = some (.int (wt x))) ∧ ud ≠ pd ∧ ud ≠ bd ∧
  ∀ H', Same (rm ud H) H' → Rd H' ud (.dK (upsL t none)) → Q (.int (least R wt t)) H'
theorem rdget {H : Hp} {d : Addr} {kvs : List (Key × V)} {k : Int} {v : V} (e : Rd H d (.dK kvs)) (h : valV kvs (Sum.inl k : Key) = some v) : DGet H d (.int k) (some v) := by
  rw [← h]
  exact .inl ⟨kvs, Sum.inl k, e, rfl, rfl⟩
section
variable {P : Program} {w : World} {K : PySem.W.Frag} {mg : Str → Option Value} {base : Heap}
theorem ok_dear {f : Addr} (F : Fd K mg "_law_dear" s_law_dear f) (T : Tx K mg) : Cal P w K mg base CX0 1 "_law_dear" spDear := by
  refine F.cal sc_law_dear (fun _ _ _ _ _ _ us hl => L3.bind4 (fun _ _ _ _ => rfl) us hl) (fun vs H Q E h => ?_) (fun cdv A outer s H vs Q E hr h => ?_)
  · obtain ⟨a, ud, pd, bd, R, wt, t, bs, L, kp, kb, rfl, _⟩ := h; rfl
  · obtain ⟨a, ud, pd, bd, R, wt, t, bs, L, kp, kb, rfl, ea, hg, ho, hz, hR, hR2, hl, hud, epd, hkp, ebd, hkb, hup, hub, q⟩ := h
    have hgl := hg.len
    have hfn : L.flatten.Nodup := hl.flat.nodup_iff.mpr hl.nd
    have hfl := hl.flat.length_eq
    rw [Tr.keys_length] at hfl
    refine ⟨_, (bcons (sfor PassesOwn.never rfl (ienum K rfl T.b_enumerate (qcons (qv 0) qnil)) (gtup (n := 2) K rfl (gscons (gname (i := 4) sc_law_dear.nd rfl (by first | exact Or.inl rfl | exact Or.inr rfl)) (gscons (gname (i := 5) sc_law_dear.nd rfl (by first | exact Or.inl rfl | exact Or.inr rfl)) gsnil)))
        (bcons (sset (i := 6) sc_law_dear.nd rfl (by first | exact Or.inl rfl | exact Or.inr rfl) qint)
        (bcons (sfor PassesOwn.never rfl (iseq K (qv 5)) (gname (i := 7) sc_law_dear.nd rfl (by first | exact Or.inl rfl | exact Or.inr rfl))
          (bone (sset (i := 6) sc_law_dear.nd rfl (by first | exact Or.inl rfl | exact Or.inr rfl) (qop rAdd (qv 6) (qTy fInt rfl T.b_int bt_int (qcons (qor K (qcmp rIs (qdget hr (qv 1) (qv 7) (fun _ _ => rfl)) qnon (nomark _)) (qone (qcmp (rNeq hr) (qdget hr (qv 2) (qdget hr (qv 1) (qv 7) (fun _ _ => rfl)) (fun _ _ => rfl)) (qv 4) (nomark _)))) qnil))))))
        (bone (sif (QW.tst (wand (tcmp (rNeq hr) (qv 5) (qlst qnil) (nomark _)) (wand1 (tcmp (rNeq hr) (qv 6) qint (nomark _))))) (bone (sret qnon)) bnil)))))
      (bcons (sset (i := 8) sc_law_dear.nd rfl (by first | exact Or.inl rfl | exact Or.inr rfl) qint)
      (bcons (sfor PassesOwn.never rfl (idict (qv 1)) (gname (i := 7) sc_law_dear.nd rfl (by first | exact Or.inl rfl | exact Or.inr rfl))
        (bcons (sset (i := 9) sc_law_dear.nd rfl (by first | exact Or.inl rfl | exact Or.inr rfl) (qdisp (pcons (qdget hr (qv 2) (qv 7) (fun _ _ => rfl)) qbl pnil)))
        (bcons (sset (i := 10) sc_law_dear.nd rfl (by first | exact Or.inl rfl | exact Or.inr rfl) (qdget hr (qv 1) (qv 7) (fun _ _ => rfl)))
        (bcons (swhile PassesOwn.never (tcmp rIsNot (qv 10) qnon (nomark _))
          (bcons (sdput hr (qv 9) (qdget hr (qv 2) (qv 10) (fun _ _ => rfl)) qbl rfl)
          (bone (sset (i := 10) sc_law_dear.nd rfl (by first | exact Or.inl rfl | exact Or.inr rfl) (qdget hr (qv 1) (qv 10) (fun _ _ => rfl))))))
        (bone (sset (i := 8) sc_law_dear.nd rfl (by first | exact Or.inl rfl | exact Or.inr rfl) (qop rAdd (qv 8) (qop rMul (qdget hr (qv 3) (qv 7) (fun _ _ => rfl)) (qB fLenD rfl T.b_len bt_len (qcons (qv 9) qnil))))))))))
      (bone (sret (qv 8)))))), ?_⟩
    refine ⟨_, rfl, a, _, rfl, ea, for_enum (xs := bs.map V.ref) (fun i σ H' => ∃ z4 z5 z6 z7, σ = [some (.ref a), some (.ref ud), some (.ref pd), some (.ref bd), z4, z5, z6, z7, none, none, none] ∧ Same H H') ⟨none, none, none, none, rfl, Same.refl _⟩ (fun i σ H' _ hh => by obtain ⟨_, _, _, _, _, s'⟩ := hh; exact s' _ _ ea) ?_ ?_⟩
    · rintro i x σ H2 T1 hx ⟨z4, z5, z6, z7, rfl, s2⟩ hT
      rw [List.getElem?_map] at hx
      obtain ⟨b, hbx, rfl⟩ := Option.map_eq_some_iff.mp hx
      obtain ⟨qi, hqi, eb⟩ := hg.at hbx
      have hqm := List.mem_of_getElem? hqi
      refine ⟨T1, _, rfl, SqT.of upd_same, rfl, _, _, rfl, _, _, rfl, rfl, ?_⟩
      have s3 : Same H (upd H2 T1 (.tup [.int i, .ref b])) := same_upd s2 (s2.free hT)
      generalize upd H2 T1 (.tup [.int i, .ref b]) = H3 at *
      have hpl := page_sz hR hl hqm
      refine ⟨_, rfl, b, rfl, .inl ⟨⟨_, SqL.of (s3 _ _ eb)⟩, for_list (xs := qi.map V.int) (fun j σ H' => ∃ z7, σ = [some (.ref a), some (.ref ud), some (.ref pd), some (.ref bd), some (.int (i : Int)), some (.ref b), some (.int ((qi.take j).map fun x => if headB (numP L) t x = true then (1 : Int) else 0).sum), z7, none, none, none] ∧ H' = H3)
        ⟨z7, rfl, rfl⟩ (fun j σ H' _ ⟨_, _, e'⟩ => by rw [e']; exact SqL.of (s3 _ _ eb)) ?_ ?_⟩⟩
      · rintro j y σ H4 hy ⟨z, rfl, rfl⟩
        rw [List.getElem?_map] at hy
        obtain ⟨x, hxk, rfl⟩ := Option.map_eq_some_iff.mp hy
        have hxq := List.mem_of_getElem? hxk
        have hxf : x ∈ L.flatten := List.mem_flatten.mpr ⟨qi, hqm, hxq⟩
        have hxt := hl.flat.mem_iff.mp hxf
        have hnum : numP L x = i := (num_at hfn hxf hqi).mp hxq
        have dg1 := rdget (rd_mono hud s3) (upsL_val ho hxt)
        have hsum : ((qi.take (j + 1)).map fun x => if headB (numP L) t x = true then (1 : Int) else 0).sum = ((qi.take j).map fun x => if headB (numP L) t x = true then (1 : Int) else 0).sum + (if headB (numP L) t x = true then (1 : Int) else 0) := by
          rw [List.take_add_one, hxk, List.map_append, List.sum_append]
          simp
        cases hupw : upW (way x t) with
        | none =>
          rw [hupw] at dg1
          have hh : headB (numP L) t x = true := by unfold headB; rw [hupw]
          rw [hh, if_pos rfl] at hsum
          refine ⟨_, rfl, _, rfl, _, rfl, ud, .non, rfl, dg1, rfl, true, rfl, ?_⟩
          refine iteT ?_
          refine .inr ⟨true, rfl, ?_⟩
          exact ⟨_, by rw [hsum]; rfl, rfl⟩
        | some u =>
          rw [hupw] at dg1
          have hut : u ∈ t.keys := (up_higher x u t none none ho hxt hupw).1
          refine ⟨_, rfl, _, rfl, _, rfl, ud, .int u, rfl, dg1, rfl, false, rfl, ?_⟩
          refine iteF ?_
          refine ⟨_, rfl, _, rfl, _, rfl, ud, .int u, rfl, dg1, pd, .int (numP L u : Int), rfl, dget (s3 _ _ epd) (hkp u hut), _, rfl, ?_⟩
          have hh : headB (numP L) t x = !decide ((numP L u : Int) = (i : Int)) := by
            unfold headB
            rw [hupw]
            dsimp only
            rw [hnum]
            by_cases z : numP L u = i
            · simp [z]
            · have : ¬ (numP L u : Int) = (i : Int) := fun y => z (by omega)
              simp [z, this]
          refine .inr ⟨_, rfl, ?_⟩
          refine ⟨some (.int x), ?_, rfl⟩
          rw [hsum, hh]; rfl
      · rintro σ H4 ⟨z, rfl, rfl⟩
        rw [List.length_map, List.take_length, one_head ho hl hqm]
        refine ⟨_, rfl, (show 0 ≤ sizeLine by decide), fun l5 H5 n5 s5 e5 _ => ?_⟩
        refine ne_ints (ys := []) (s5 _ _ (s3 _ _ eb)) e5 ?_
        refine ⟨_, rfl, ?_⟩
        rw [decide_eq_false (fun z => by rw [z] at hpl; simp at hpl)]
        refine iteT ?_
        refine ⟨_, rfl, _, rfl, ?_⟩
        refine iteF ?_
        exact ⟨_, _, _, _, rfl, s3.trans s5⟩
    · rintro σ H2 ⟨z4, z5, z6, z7, rfl, s2⟩
      refine ⟨_, rfl, ud, _, rfl, rd_mono hud s2, fun ob H3 e3 s3 => ?_⟩
      have s03 : Same (rm ud H) H3 := (rm_of' s2).trans s3
      have hkl : (upsL t none).length = (preK t).length := by
        have := congrArg List.length (upsL_keys t none)
        rwa [List.length_map, List.length_map] at this
      refine for_dict (fun i σ H' => ∃ z4 z5 z6 z7 z9 z10, σ = [some (.ref a), some (.ref ud), some (.ref pd), some (.ref bd), z4, z5, z6, z7, some (.int (((preK t).take i).map (dr R wt t)).sum), z9, z10] ∧ Same (rm ud H) H' ∧ H' ud = some (.frz ob (.dK (upsL t none))))
        ⟨z4, z5, z6, z7, none, none, rfl, s03, e3⟩ (fun i σ H' _ hh => by obtain ⟨_, _, _, _, _, _, _, _, e'⟩ := hh; exact e') ?_ ?_
      · rintro i k v σ H4 hik ⟨y4, y5, y6, y7, y9, y10, rfl, s4, e4⟩
        obtain ⟨x, hxi, rfl⟩ : ∃ x, (preK t)[i]? = some x ∧ k = Sum.inl x := by
          have h1 : ((upsL t none).map (·.1))[i]? = some k := by rw [List.getElem?_map, hik]; rfl
          rw [upsL_keys, List.getElem?_map] at h1
          obtain ⟨x, h2, h3⟩ := Option.map_eq_some_iff.mp h1
          exact ⟨x, h2, h3.symm⟩
        have hxt : x ∈ t.keys := (preK_perm t).mem_iff.mp (List.mem_of_getElem? hxi)
        have epd4 : ∀ {G : Hp}, Same (rm ud H) G → G pd = some (.dK kp) := fun s => s _ _ (by rw [rm_ne hup.symm]; exact epd)
        have ebd4 : ∀ {G : Hp}, Same (rm ud H) G → G bd = some (.dK kb) := fun s => s _ _ (by rw [rm_ne hub.symm]; exact ebd)
        intro th nth
        have sth : Same (rm ud H) (upd H4 th (.dK [])) := s4.trans (same_new nth)
        refine ⟨_, rfl, _, rfl, pd, .int (numP L x : Int), rfl, dget (epd4 sth) (hkp x hxt), upd_same, [((Sum.inl (numP L x : Int) : Key), .bl true)], rfl, by simp, ?_⟩
        have hun : th ≠ ud := fun z => by rw [z, e4] at nth; cases nth
        have nth0 : (rm ud H) th = none := s4.free nth
        have s5 : Same (rm ud H) (upd (upd H4 th (.dK [])) th (.dK (mergeK [] [((Sum.inl (numP L x : Int) : Key), .bl true)]))) := same_upd sth nth0
        have e5 : upd (upd H4 th (.dK [])) th (.dK (mergeK [] [((Sum.inl (numP L x : Int) : Key), .bl true)])) th = some (.dK (mkD [numP L x])) := upd_same
        have u5 : upd (upd H4 th (.dK [])) th (.dK (mergeK [] [((Sum.inl (numP L x : Int) : Key), .bl true)])) ud = some (.frz ob (.dK (upsL t none))) := by rw [upd_ne hun.symm, upd_ne hun.symm]; exact e4
        generalize upd (upd H4 th (.dK [])) th (.dK (mergeK [] [((Sum.inl (numP L x : Int) : Key), .bl true)])) = H5 at *
        refine ⟨_, rfl, _, rfl, ud, _, rfl, rdget (.inr ⟨ob, u5⟩) (upsL_val ho hxt), ?_⟩
        have hrv0 := way_last t none none ho x hxt
        have hwl := way_len x t
        have hht := Tr.ht_size t
        have h1t : (way x t).reverse.take 1 = [x] := by
          rw [List.take_add_one, hrv0]; rfl
        refine ⟨fun m σ H' => ∃ (j : Nat), m = (way x t).length - j ∧ j < (way x t).length ∧ σ = [some (.ref a), some (.ref ud), some (.ref pd), some (.ref bd), y4, y5, y6, some (.int x), some (.int (((preK t).take i).map (dr R wt t)).sum), some (.ref th), some (vO ((way x t).reverse[j + 1]?))] ∧ Same (rm ud H) H' ∧ H' ud = some (.frz ob (.dK (upsL t none))) ∧ H' th = some (.dK (mkD (acc (numP L) [] ((way x t).reverse.take (j + 1))))),
          ⟨_, 0, rfl, ?_, ?_, s5, u5, ?_⟩, ?_⟩
        · have := (List.getElem?_eq_some_iff.mp hrv0).1
          rw [List.length_reverse] at this
          exact this
        · rw [up_next ho hxt hrv0]; rfl
        · rw [h1t, e5]; rfl
        rintro m σ H6 ⟨j, rfl, hj, rfl, s6, u6, e6⟩
        cases hrj : (way x t).reverse[j + 1]? with
        | none =>
          refine ⟨_, rfl, rfl, _, rfl, ?_⟩
          have hjl : (way x t).reverse.length ≤ j + 1 := List.getElem?_eq_none_iff.mp hrj
          rw [List.take_of_length_le hjl] at e6
          have hal := acc_len (numP L) (way x t).reverse []
          rw [List.length_reverse] at hal
          have hmk : (mkD (acc (numP L) [] (way x t).reverse)).length = (acc (numP L) [] (way x t)).length := by
            unfold mkD; rw [List.length_map, acc_rev]
          refine ⟨_, rfl, _, rfl, _, rfl, bd, .int (wt x), rfl, dget (ebd4 s6) (hkb x hxt), _, rfl, th, _, rfl, .inl e6, _, _, rfl, rfl, cmR ⟨by omega, by unfold mkD; rw [List.length_map]; simp only [List.length_nil] at hal; omega⟩, ?_⟩
          have hop := opened_is ho hl hxt
          refine ⟨y4, y5, y6, some (.int x), some (.ref th), some .non, ?_, s6, u6⟩
          have hv : (((preK t).take (i + 1)).map (dr R wt t)).sum = (((preK t).take i).map (dr R wt t)).sum + wt x * ((mkD (acc (numP L) [] (way x t).reverse)).length : Int) := by
            rw [List.take_add_one, hxi, List.map_append, List.sum_append, hmk, hop]
            simp [dr]
          rw [hv]; rfl
        | some y =>
          refine ⟨_, rfl, rfl, _, rfl, ?_⟩
          refine iteT ?_
          refine ⟨fun σ' H' => ∃ m', m' < (way x t).length - j ∧ ∃ (j : Nat), m' = (way x t).length - j ∧ j < (way x t).length ∧ σ' = [some (.ref a), some (.ref ud), some (.ref pd), some (.ref bd), y4, y5, y6, some (.int x), some (.int (((preK t).take i).map (dr R wt t)).sum), some (.ref th), some (vO ((way x t).reverse[j + 1]?))] ∧ Same (rm ud H) H' ∧ H' ud = some (.frz ob (.dK (upsL t none))) ∧ H' th = some (.dK (mkD (acc (numP L) [] ((way x t).reverse.take (j + 1))))), fun _ _ z => z, ?_⟩
          have hyw : y ∈ way x t := List.mem_reverse.mp (List.mem_of_getElem? hrj)
          have hyt := way_sub x t y hyw
          have hj2 := (List.getElem?_eq_some_iff.mp hrj).1
          rw [List.length_reverse] at hj2
          have hal := acc_len (numP L) ((way x t).reverse.take (j + 1)) []
          rw [List.length_take, List.length_reverse] at hal
          refine ⟨_, rfl, _, rfl, _, rfl, pd, .int (numP L y : Int), rfl, dget (epd4 s6) (hkp y hyt), th, _, rfl, DPut.k (k := (Sum.inl (numP L y : Int) : Key)) e6 (sizeBig (by unfold mkD; rw [List.length_map]; simp only [List.length_nil] at hal; omega)), ?_⟩
          rw [mk_put]
          have s7 : Same (rm ud H) (upd H6 th (.dK (mkD (acc (numP L) [] ((way x t).reverse.take (j + 1)) ++ if numP L y ∈ acc (numP L) [] ((way x t).reverse.take (j + 1)) then [] else [numP L y])))) := same_upd s6 nth0
          have u7 : upd H6 th (.dK (mkD (acc (numP L) [] ((way x t).reverse.take (j + 1)) ++ if numP L y ∈ acc (numP L) [] ((way x t).reverse.take (j + 1)) then [] else [numP L y]))) ud = some (.frz ob (.dK (upsL t none))) := by rw [upd_ne hun.symm]; exact u6
          refine ⟨_, rfl, _, rfl, ud, _, rfl, rdget (.inr ⟨ob, u7⟩) (upsL_val ho hyt), ?_⟩
          refine ⟨_, ?_, j + 1, rfl, hj2, ?_, s7, u7, ?_⟩
          · omega
          · rw [up_next ho hxt hrj]; rfl
          · rw [upd_same, List.take_add_one (i := j + 1), hrj]
            unfold acc
            rw [List.foldl_append]; rfl
      · rintro σ H4 ⟨y4, y5, y6, y7, y9, y10, rfl, s4, e4⟩
        rw [hkl, List.take_length, dr_sum R wt hl.nd]
        exact ⟨_, rfl, q H4 s4 (.inr ⟨ob, e4⟩)⟩
end
end K18
namespace K18
open PySem L2 L3
theorem ixN_nat {n j : Nat} (h : j < n) : ixN n (j : Int) = some j := by
  unfold ixN
  simp
  omega
theorem set_split {α : Type} {xs : List α} {i : Nat} {x : α} (h : i < xs.length) : xs.take i ++ [x] ++ xs.drop (i + 1) = xs.set i x := by
  rw [List.set_eq_take_append_cons_drop, if_pos h]; simp
def spRaised : Sp := fun vs H Q _ => ∃ (p tb : Addr) (R : Nat) (ws : List V) (rows : Tbl), vs = [.ref p, .ref tb] ∧ Pen3 H p ∧ H tb = some (.lst ws) ∧ tb ≠ p ∧ Reps H ws (rows.map rwD) ∧ 1 ≤ rows.length ∧ rows.length ≤ 60 ∧ (∀ e ∈ rows, e.2.length = R) ∧ 1 ≤ R ∧ R ≤ 100 ∧
  ∀ (r : Addr) (H' : Hp) (ws' : List V) (i j : Nat) (e : Int × List Int), Same (rm p H) H' → Pen3 H' p → H' r = some (.lst ws') → rows[i]? = some e → j < R → Reps H' ws' ((rows.set i (e.1, e.2.set j (e.2.getD j 0 + 1))).map rwD) → Q (.ref r) H'
section
variable {P : Program} {w : World} {K : PySem.W.Frag} {mg : Str → Option Value} {base : Heap}
theorem ok_raised {f : Addr} (F : Fd K mg "_law_raised" s_law_raised f) (T : Tx K mg) (C_law_draw : Cal P w K mg base CX0 1 "_law_draw" spDraw) : Cal P w K mg base CX0 2 "_law_raised" spRaised := by
  refine F.cal sc_law_raised (fun _ _ _ _ _ _ us hl => L3.bind2 (fun _ _ => rfl) us hl) (fun vs H Q E h => ?_) (fun cdv A outer s H vs Q E hr h => ?_)
  · obtain ⟨p, tb, R, ws, rows, rfl, _⟩ := h; rfl
  · obtain ⟨p, tb, R, ws, rows, rfl, hp, etb, htp, grw, hr1, hr2, hlen, hR, hR2, q⟩ := h
    have hwl := grw.length
    rw [List.length_map] at hwl
    refine ⟨_, (bcons (sset (i := 2) sc_law_raised.nd rfl (by first | exact Or.inl rfl | exact Or.inr rfl) (qF C_law_draw (hr.mono (by omega)) pass0 rfl (qcons (qv 0) (qcons (qB (fLen K) rfl T.b_len bt_len (qcons (qv 1) qnil)) qnil))))
      (bcons (sasg (qix (xIx K) (qv 1) (qv 2) (fun _ _ => rfl)) (gtup (n := 2) K rfl (gscons (gname (i := 3) sc_law_raised.nd rfl (by first | exact Or.inl rfl | exact Or.inr rfl)) (gscons (gname (i := 4) sc_law_raised.nd rfl (by first | exact Or.inl rfl | exact Or.inr rfl)) gsnil))))
      (bcons (sset (i := 5) sc_law_raised.nd rfl (by first | exact Or.inl rfl | exact Or.inr rfl) (qF C_law_draw (hr.mono (by omega)) pass0 rfl (qcons (qv 0) (qcons (qB (fLen K) rfl T.b_len bt_len (qcons (qv 4) qnil)) qnil))))
      (bcons (sset (i := 6) sc_law_raised.nd rfl (by first | exact Or.inl rfl | exact Or.inr rfl) (qTy (fList K) rfl T.b_list bt_list (qcons (qv 4) qnil)))
      (bcons (sasg (qop rAdd (qix (xIx K) (qv 6) (qv 5) (fun _ _ => rfl)) qint) (gsub (qv 6) (qv 5) xSet))
      (bone (sret (qop rAdd (qop rAdd (qslice (xSl K) (qv 1) onone (osome (qv 2))) (qlst (qcons (qtup (qcons (qv 3) (qcons (qTy (fTuple K) rfl T.b_tuple bt_tuple (qcons (qv 6) qnil)) qnil))) qnil))) (qslice (xSl K) (qv 1) (osome (qop rAdd (qv 2) qint)) onone))))))))), ?_⟩
    refine ⟨_, rfl, _, rfl, tb, ws, rfl, .inl (SqL.of etb), p, (ws.length : Int), rfl, hp, by omega, by omega, fun k H1 k0 k1 p1 s1 => ?_⟩
    obtain ⟨i, rfl⟩ := Int.eq_ofNat_of_zero_le k0
    have hi : i < ws.length := by omega
    have K1 : KeepT H H1 := KeepT.rm (not_tup3 hp) s1
    have g1 := rows_keep K1 grw
    have et1 := rm_look s1 etb htp
    have hws0 : ws[i]? = some ws[i] := List.getElem?_eq_getElem hi
    obtain ⟨e, he, ge⟩ := reps_map g1 hws0
    obtain ⟨pe, c, hpe, eb, ec⟩ := rep_row ge
    have hws : ws[i]? = some (.ref pe) := by rw [hws0, hpe]
    have hel := hlen e (List.mem_of_getElem? he)
    refine ⟨_, rfl, _, rfl, tb, ws, i, .ref pe, rfl, rfl, .inl (SqL.of et1), atI_nat (j := i) hws, pe, _, rfl, SqT.of eb, rfl, _, _, rfl, _, _, rfl, rfl, ?_⟩
    refine ⟨_, rfl, _, rfl, c, _, rfl, .inr (SqT.of ec), p, ((e.2.map V.int).length : Int), rfl, p1, by rw [List.length_map]; omega, by rw [List.length_map]; omega, fun k2 H2 k20 k21 p2 s2 => ?_⟩
    rw [List.length_map] at k21
    obtain ⟨j, rfl⟩ := Int.eq_ofNat_of_zero_le k20
    have hj : j < R := by omega
    have K2 : KeepT H1 H2 := KeepT.rm (not_tup3 p1) s2
    have t2 := rm_trans s1 s2
    have et2 := rm_look s2 et1 htp
    refine ⟨_, rfl, c, _, rfl, .inr (SqT.of (K2 _ _ ec)), fun l3 H3 n3 s3 e3 _ => ?_⟩
    have hgj : (e.2.map V.int)[j]? = some (.int (e.2.getD j 0)) := by
      rw [List.getElem?_map, List.getElem?_eq_getElem (by omega), List.getD_eq_getElem?_getD, List.getElem?_eq_getElem (by omega)]; rfl
    refine ⟨_, rfl, _, rfl, l3, _, j, _, rfl, rfl, .inl (SqL.of e3), atI_nat (j := j) hgj, ?_⟩
    refine ⟨_, rfl, _, rfl, l3, _, j, j, rfl, rfl, e3, ixN_nat (by rw [List.length_map]; omega), ?_⟩
    have e4 : upd H3 l3 (.lst ((e.2.map V.int).set j (.int (e.2.getD j 0 + 1)))) l3 = some (.lst ((e.2.set j (e.2.getD j 0 + 1)).map V.int)) := by rw [upd_same, List.map_set]
    have K4 : KeepT H3 (upd H3 l3 (.lst ((e.2.map V.int).set j (.int (e.2.getD j 0 + 1))))) := KeepT.upd (not_tup e3)
    have hl3p : l3 ≠ p := fun z => by
      obtain ⟨x, y, zz, h⟩ := p2
      rw [z, h] at n3; cases n3
    have nl : (rm p H) l3 = none := t2.free n3
    have t4 : Same (rm p H) (upd H3 l3 (.lst ((e.2.map V.int).set j (.int (e.2.getD j 0 + 1))))) := same_upd (t2.trans s3) nl
    have p4 : Pen3 (upd H3 l3 (.lst ((e.2.map V.int).set j (.int (e.2.getD j 0 + 1))))) p := by
      obtain ⟨x, y, zz, h⟩ := p2.mono s3
      exact ⟨x, y, zz, by rw [upd_ne hl3p.symm]; exact h⟩
    have hlt : l3 ≠ tb := fun z => by rw [z, et2] at n3; cases n3
    have et4 : upd H3 l3 (.lst ((e.2.map V.int).set j (.int (e.2.getD j 0 + 1)))) tb = some (.lst ws) := by rw [upd_ne hlt.symm]; exact s3 _ _ et2
    have g4 := rows_keep ((K2.trans (KeepT.same s3)).trans K4) g1
    generalize upd H3 l3 (.lst ((e.2.map V.int).set j (.int (e.2.getD j 0 + 1)))) = H4 at *
    refine ⟨_, rfl, _, rfl, _, rfl, tb, _, rfl, SqL.of et4, fun l9 H9 n9 s9 e9 _ => ?_⟩
    rw [cut_hi] at e9
    refine ⟨_, rfl, _, rfl, l3, _, rfl, .inl ⟨SqL.of (s9 _ _ e4), fun ct HA nA sA eA _ => ?_⟩⟩
    refine ⟨(show 2 ≤ sizeLine by decide), fun rt HB nB sB eB' _ => ?_⟩
    refine ⟨(show 1 ≤ sizeLine by decide), fun lC HC nC sC eC _ => ?_⟩
    have s9C := (sA.trans sB).trans sC
    refine ⟨_, _, s9C _ _ e9, eC, sizeBig' (by rw [List.length_take, List.length_singleton]; omega), fun lD HD nD sD eD _ => ?_⟩
    have s4D := s9.trans (s9C.trans sD)
    refine ⟨_, rfl, _, rfl, _, rfl, tb, _, rfl, SqL.of (s4D _ _ et4), fun lE HE nE sE eE _ => ?_⟩
    rw [show (i : Int) + 1 = ((i + 1 : Nat) : Int) by omega, cut_lo] at eE
    refine ⟨_, _, sE _ _ eD, eE, sizeBig' (by rw [List.length_append, List.length_take, List.length_drop, List.length_singleton]; omega), fun lF HF nF sF eF _ => ?_⟩
    have s4F := s4D.trans (sE.trans sF)
    refine q lF HF _ i j e (t4.trans s4F) (p4.mono s4F) eF he hj ?_
    have hil : i < rows.length := by omega
    rw [← set_split hil, List.map_append, List.map_append]
    have sBF := (sC.trans sD).trans (sE.trans sF)
    refine ((((reps_take i g4).mono s4F)).append (.cons ?_ .nil)).append ((reps_drop (i + 1) g4).mono s4F)
    exact .tup (sBF _ _ eB') (.cons (.int _) (.cons (.tup (sBF _ _ (sB _ _ eA)) (Reps.ints _)) .nil))
end
end K18
namespace K18
open PySem L2 L3
def spLaw (K : PySem.W.Frag) : Sp := fun vs H Q _ => ∃ (a : Addr) (ns : List Int), vs = [.ref a] ∧ SqL K H a (ns.map V.int) ∧ ns.length ≤ 63 ∧ ∀ H', Q (.bl true) H'
theorem wt_of {xs ws : List Int} (nd : xs.Nodup) (hl : ws.length = xs.length) : xs.map (fun k => ws.getD (xs.idxOf k) 0) = ws := by
  refine List.ext_getElem? fun i => ?_
  rw [List.getElem?_map]
  by_cases hi : i < xs.length
  · have e : xs.idxOf xs[i] = i := by
      have hil : xs.idxOf xs[i] < xs.length := List.idxOf_lt_length_iff.mpr (List.getElem_mem hi)
      exact (List.getElem?_inj hil nd).mp (by rw [List.getElem?_eq_getElem hil, List.getElem_idxOf, List.getElem?_eq_getElem hi])
    rw [List.getElem?_eq_getElem hi]
    simp only [Option.map_some, e]
    rw [List.getD_eq_getElem?_getD, List.getElem?_eq_getElem (show i < ws.length by omega)]; rfl
  · rw [List.getElem?_eq_none (by omega), List.getElem?_eq_none (by omega)]; rfl
theorem eq_nil {H : Hp} {a b : Addr} {xs : List Int} {Q : VK} (ea : H a = some (.lst (xs.map V.int))) (eb : H b = some (.lst [])) (h : Q (.bl xs.isEmpty) H) : rEqG 150 (.ref a) (.ref b) H Q := by
  refine ⟨_, _, rep_ints ea, rep_ints (ns := []) eb, by rw [D.pure]; exact pures_ints _, rfl, by rw [D.dep, deps_ints]; omega, ?_⟩
  cases xs with
  | nil => rw [D.eqv_refl]; exact h
  | cons x xs => exact h
theorem pure_row (e : Int × List Int) : (rwD e).pure = true := by
  show (D.tup [.int e.1, .tup (e.2.map D.int)]).pure = true
  rw [D.pure, pures, pures, D.pure, pures_ints]; rfl
theorem deps_rows : ∀ rows : Tbl, deps (rows.map rwD) ≤ 3
  | [] => by rw [List.map_nil, deps]; decide
  | e :: rows => by
    have h1 := deps_rows rows
    have h2 : (rwD e).dep ≤ 2 := by
      show (D.tup [.int e.1, .tup (e.2.map D.int)]).dep ≤ 2
      have h3 : (D.tup (e.2.map D.int)).dep = 1 + deps (e.2.map D.int) := by rw [D.dep]; omega
      have h4 : (D.int e.1).dep = 0 := by simp [D.dep]
      have h5 : deps (e.2.map D.int) = 0 := deps_ints _
      rw [D.dep, deps, deps, deps, h3, h4, h5]
      decide
    rw [List.map_cons, deps]; omega
theorem through {B G G' : Hp} {d : Addr} (hd : B d = none) (s : Same B G) (s' : Same (rm d G) G') : Same B G' := fun x o hx => s' x o (by rw [rm_ne (fun z => by rw [z, hd] at hx; cases hx)]; exact s x o hx)
theorem rd_rm {H H' : Hp} {d p : Addr} {u : HO} (h : Rd H d u) (hd : d ≠ p) (s : Same (rm p H) H') : Rd H' d u := by
  rcases h with h | ⟨o, h⟩
  · exact .inl (rm_look s h hd)
  · exact .inr ⟨o, rm_look s h hd⟩
theorem rows_sorted {R : Nat} {wt : Int → Int} {t : Tr} (ho : t.ord none none) {H : Hp} {ws : List V} (g : Reps H ws ((post R wt t).map rwD)) : ∃ zs : List (Addr × Int), ws = zs.map (fun z => V.ref z.1) ∧ (zs.map (·.2)).Perm t.keys ∧ ∀ z ∈ zs, Rep H (.ref z.1) (rwD (z.2, costs R wt (at_ z.2 t))) := by
  have : ∀ {rows : Tbl} {ws : List V}, Reps H ws (rows.map rwD) → ∃ zs : List (Addr × Int), ws = zs.map (fun z => V.ref z.1) ∧ zs.map (·.2) = rows.map (·.1) ∧ ∀ z ∈ zs, ∃ e ∈ rows, e.1 = z.2 ∧ Rep H (.ref z.1) (rwD e) := fun {rows} => by
    induction rows with
    | nil => intro ws h; cases h; exact ⟨[], rfl, rfl, fun z hz => by cases hz⟩
    | cons e rows ih =>
      intro ws h
      cases h with
      | cons h1 h2 =>
        obtain ⟨zs, a1, a2, a3⟩ := ih h2
        obtain ⟨b, c, rfl, eb, ec⟩ := rep_row h1
        refine ⟨(b, e.1) :: zs, by rw [a1]; rfl, by rw [List.map_cons, a2]; rfl, fun z hz => ?_⟩
        rcases List.mem_cons.mp hz with rfl | hz
        · exact ⟨e, .head _, rfl, h1⟩
        · obtain ⟨e', b1, b2⟩ := a3 z hz
          exact ⟨e', .tail _ b1, b2⟩
  obtain ⟨zs, a1, a2, a3⟩ := this g
  refine ⟨zs, a1, by rw [a2]; exact post_perm R wt t, fun z hz => ?_⟩
  obtain ⟨e, b1, b2, b3⟩ := a3 z hz
  have := post_at R wt t none none ho e b1
  rw [← b2, ← this]
  exact b3
theorem sorted_rows {R : Nat} {wt : Int → Int} {t : Tr} (ho : t.ord none none) {H : Hp} {zs ys : List (Addr × Int)} (hz : (zs.map (·.2)).Perm t.keys) (hr : ∀ z ∈ zs, Rep H (.ref z.1) (rwD (z.2, costs R wt (at_ z.2 t)))) (pm : ys.Perm zs) (so : ys.Pairwise (fun a b => a.2 ≤ b.2)) : Reps H (ys.map fun z => V.ref z.1) ((rowsC R wt t).map rwD) := by
  have hri := ord_rise t none none ho
  have hk : ys.map (·.2) = t.keys := by
    have p1 : (ys.map (·.2)).Perm t.keys := (pm.map _).trans hz
    have s1 : (ys.map (·.2)).Pairwise (· ≤ ·) := List.pairwise_map.mpr so
    rw [so_one p1 s1]
    exact (so_one (List.Perm.refl _) (hri.imp fun h => Int.le_of_lt h)).symm
  have e : (rowsC R wt t).map rwD = ys.map fun z => rwD (z.2, costs R wt (at_ z.2 t)) := by
    unfold rowsC
    rw [← hk, List.map_map, List.map_map]; rfl
  rw [e]
  have hr' : ∀ z ∈ ys, Rep H (.ref z.1) (rwD (z.2, costs R wt (at_ z.2 t))) := fun z hz => hr z (pm.mem_iff.mp hz)
  clear pm so hk e
  induction ys with
  | nil => exact .nil
  | cons y ys ih => exact .cons (hr' y (.head _)) (ih fun z hz => hr' z (.tail _ hz))
section
variable {P : Program} {w : World} {K : PySem.W.Frag} {mg : Str → Option Value} {base : Heap}
theorem ok_law {f : Addr} {fd : FuncData} (F : Fun K "law" "law" s_law f fd) (T : Tx K mg) (C_law_pen : Cal P w K mg base CX0 1 "_law_pen" (spPen K)) (C_law_draw : Cal P w K mg base CX0 1 "_law_draw" spDraw) (C_law_keys : Cal P w K mg base CX0 2 "_law_keys" spKeys) (C_law_tree : Cal P w K mg base CX0 71 "_law_tree" spTree)
    (C_law_weight : Cal P w K mg base CX0 2 "_law_weight" spWeight) (C_law_ups : Cal P w K mg base CX0 80 "_law_ups" (spLUps 80)) (C_law_reckoned : Cal P w K mg base CX0 80 "_law_reckoned" (spReck 80)) (C_cheapest : Cal P w K mg base CX0 85 "cheapest" spCheap) (C_law_page_of : Cal P w K mg base CX0 1 "_law_page_of" spPageOf) (C_law_dear : Cal P w K mg base CX0 1 "_law_dear" spDear) (C_shows_cost : Cal P w K mg base CX0 84 "shows_cost" spShows) (C_law_raised : Cal P w K mg base CX0 2 "_law_raised" spRaised) : FnOk P w K mg base CX0 171 f fd ["_law_script"] (spLaw K) := by
  refine okQ F sc_law (fun vs H Q E h => ?_) (fun cdv A outer s H vs Q E hr h => ?_)
  · obtain ⟨a, ns, rfl, _⟩ := h; rfl
  · obtain ⟨a, ns, rfl, ha, hl, q⟩ := h
    refine ⟨_, (bcons (sset (i := 1) sc_law.nd rfl (by first | exact Or.inl rfl | exact Or.inr rfl) (qF C_law_pen (hr.mono (by omega)) pass0 rfl (qcons (qv 0) (qcons qint qnil))))
      (bcons (sset (i := 2) sc_law.nd rfl (by first | exact Or.inl rfl | exact Or.inr rfl) (qF C_law_keys (hr.mono (by omega)) pass0 rfl (qcons (qv 1) (qcons (qF C_law_draw (hr.mono (by omega)) pass0 rfl (qcons (qv 1) (qcons qint qnil))) qnil))))
      (bcons (sset (i := 3) sc_law.nd rfl (by first | exact Or.inl rfl | exact Or.inr rfl) (qop rAdd qint (qF C_law_draw (hr.mono (by omega)) pass0 rfl (qcons (qv 1) (qcons qint qnil)))))
      (bcons (sset (i := 4) sc_law.nd rfl (by first | exact Or.inl rfl | exact Or.inr rfl) (qF C_law_tree (hr.mono (by omega)) pass0 rfl (qcons (qF C_law_pen (hr.mono (by omega)) pass0 rfl (qcons (qv 0) (qcons qint qnil))) (qcons (qv 2) qnil))))
      (bcons (sset (i := 1) sc_law.nd rfl (by first | exact Or.inl rfl | exact Or.inr rfl) (qF C_law_pen (hr.mono (by omega)) pass0 rfl (qcons (qv 0) (qcons qint qnil))))
      (bcons (ssetC (i := 5) (sc := defScope s_law) (NX := ["_law_script", "_law_pen_here", "_law_keys_here", "_law_room", "_law_tree_here", "_law_weights", "_law_by", "_law_ups_here", "_law_rows", "_law_heavy", "_law_side", "_law_turn", "_law_handed", "_law_told", "_law_sum_told", "_law_layout", "_law_costs", "_law_pages", "_law_bent", "_law_page"]) ["_law_key", "_law_pen_here"] [none, some 1] rfl sc_law.nd rfl rfl (iseq K (qv 2)) (fun _ _ _ => (gname (i := 0) (show (["_law_key", "_law_pen_here"] : List Str).Nodup by decide +kernel) rfl (by first | exact Or.inl rfl | exact Or.inr rfl))) (fun _ _ _ => csnil) (fun _ _ _ => (qF C_law_weight (hr.mono (by omega)) pass0 rfl (qcons (qv 1) qnil))) rfl rfl (by decide +kernel) rfl)
      (bcons (sset (i := 6) sc_law.nd rfl (by first | exact Or.inl rfl | exact Or.inr rfl) (qDictZ rfl T.b_dict bt_dict rfl T.b_zip (qcons (qv 2) (qcons (qv 5) qnil))))
      (bcons (sset (i := 7) sc_law.nd rfl (by first | exact Or.inl rfl | exact Or.inr rfl) qdict)
      (bcons (sexpr (qF C_law_ups (hr.mono (by omega)) pass0 rfl (qcons (qv 4) (qcons qnon (qcons (qv 7) qnil)))))
      (bcons (sset (i := 8) sc_law.nd rfl (by first | exact Or.inl rfl | exact Or.inr rfl) (qlst qnil))
      (bcons (sasg (qF C_law_reckoned (hr.mono (by omega)) pass0 rfl (qcons (qv 4) (qcons (qv 3) (qcons (qv 6) (qcons (qv 8) qnil))))) (gtup (n := 2) K rfl (gscons (gname (i := 9) sc_law.nd rfl (by first | exact Or.inl rfl | exact Or.inr rfl)) (gscons (gname (i := 10) sc_law.nd rfl (by first | exact Or.inl rfl | exact Or.inr rfl)) gsnil))))
      (bcons (sfor PassesOwn.never rfl (irange1 rfl T.b_range (qcons qint qnil)) (gname (i := 11) sc_law.nd rfl (by first | exact Or.inl rfl | exact Or.inr rfl))
        (bcons (sset (i := 12) sc_law.nd rfl (by first | exact Or.inl rfl | exact Or.inr rfl) (qTy (fList K) rfl T.b_list bt_list (qcons (qv 5) qnil)))
        (bcons (sset (i := 13) sc_law.nd rfl (by first | exact Or.inl rfl | exact Or.inr rfl) (qF C_cheapest (hr.mono (by omega)) pass0 rfl (qcons (qv 4) (qcons (qv 3) (qcons (qv 12) qnil)))))
        (bcons (sif (QW.tst (wor (tnot (ttru K (qB (fIsi K) rfl T.b_isinstance bt_isinstance (qcons (qv 13) (qcons (qty rfl T.b_tuple bt_tuple) qnil))) (fun _ => rfl))) (wor (tcmp (rNeq hr) (qB (fLen K) rfl T.b_len bt_len (qcons (qv 13) qnil)) qint (nomark _)) (wor1 (tcmp (rNeq hr) (qv 12) (qv 5) (nomark _)))))) (bone (sret qbl)) bnil)
        (bcons (sif (QW.tst (wand (tcmp (rEqq hr) (qv 2) (qlst qnil) (nomark _)) (wand1 (tcmp (rNeq hr) (qv 13) (qtup (qcons qint (qcons (qlst qnil) (qcons (qlst qnil) qnil)))) (nomark _))))) (bone (sret qbl)) bnil)
        (bcons (sasg (qv 13) (gtup (n := 3) K rfl (gscons (gname (i := 14) sc_law.nd rfl (by first | exact Or.inl rfl | exact Or.inr rfl)) (gscons (gname (i := 15) sc_law.nd rfl (by first | exact Or.inl rfl | exact Or.inr rfl)) (gscons (gname (i := 16) sc_law.nd rfl (by first | exact Or.inl rfl | exact Or.inr rfl)) gsnil)))))
        (bcons (sif (QW.tst (wor (tcmp (rNeq hr) (qv 14) (qix (xIx K) (qv 10) qint (fun _ _ => rfl)) (nomark _)) (wor (ttru K (qB (fIsi K) rfl T.b_isinstance bt_isinstance (qcons (qv 14) (qcons (qty rfl T.b_bool bt_bool) qnil))) (fun _ => rfl)) (wor (tcmp (rNeq hr) (qv 16) (qB (fSortF K) rfl T.b_sorted bt_sorted (qcons (qv 8) qnil)) (nomark _)) (wor1 (tnot (ttru K (qB (fIsi K) rfl T.b_isinstance bt_isinstance (qcons (qv 15) (qcons (qty rfl T.b_list bt_list) qnil))) (fun _ => rfl)))))))) (bone (sret qbl)) bnil)
        (bcons (sset (i := 17) sc_law.nd rfl (by first | exact Or.inl rfl | exact Or.inr rfl) (qF C_law_page_of (hr.mono (by omega)) pass0 rfl (qcons (qv 15) (qcons (qv 2) (qcons (qv 3) qnil)))))
        (bcons (sif (QW.tst (wor (tcmp rIs (qv 17) qnon (nomark _)) (wor1 (tcmp (rNeq hr) (qF C_law_dear (hr.mono (by omega)) pass0 rfl (qcons (qv 15) (qcons (qv 7) (qcons (qv 17) (qcons (qv 6) qnil))))) (qv 14) (nomark _))))) (bone (sret qbl)) bnil)
        (bcons (sif (tcmp rIsNotB (qF C_shows_cost (hr.mono (by omega)) pass0 rfl (qcons (qv 4) (qcons (qv 3) (qcons (qv 5) (qcons (qv 16) (qcons (qv 14) qnil)))))) qbl (nomark _)) (bone (sret qbl)) bnil)
        (bcons (sif (tcmp rIsNotB (qF C_shows_cost (hr.mono (by omega)) pass0 rfl (qcons (qv 4) (qcons (qv 3) (qcons (qv 5) (qcons (qv 16) (qcons (qop rAdd (qv 14) qint) qnil)))))) qbl (nomark _)) (bone (sret qbl)) bnil)
        (bcons (sif (tcmp (rNeq hr) (qv 2) (qlst qnil) (nomark _)) (bcons (sset (i := 18) sc_law.nd rfl (by first | exact Or.inl rfl | exact Or.inr rfl) (qF C_law_raised (hr.mono (by omega)) pass0 rfl (qcons (qv 1) (qcons (qv 16) qnil))))
          (bone (sif (tcmp rIsNotB (qF C_shows_cost (hr.mono (by omega)) pass0 rfl (qcons (qv 4) (qcons (qv 3) (qcons (qv 5) (qcons (qv 18) (qcons qint qnil)))))) qbl (nomark _)) (bone (sret qbl)) bnil))) bnil)
        (bcons (sexpr (qBm0 K PySem.F.plainAttrs_list PySem.F.slot_list_clear PySem.F.type_list_clear mClear (qv 16)))
        (bcons (sfor PassesOwn.never rfl (iseq K (qv 15)) (gname (i := 19) sc_law.nd rfl (by first | exact Or.inl rfl | exact Or.inr rfl))
          (bone (sexpr (qBm K PySem.F.plainAttrs_list PySem.F.slot_list_append PySem.F.type_list_append mAppend (qv 19) (qcons qnon qnil)))))
        (bone (sexpr (qBm0 K PySem.F.plainAttrs_list PySem.F.slot_list_clear PySem.F.type_list_clear mClear (qv 12))))))))))))))))))
      (bone (sret qbl)))))))))))))), ?_⟩
    refine ⟨_, rfl, a, 0, ns, rfl, ha, hl, by decide, by decide, fun p H1 n1 s1 p1 => ?_⟩
    refine ⟨_, rfl, _, rfl, p, 61, rfl, p1, by decide, by decide, fun r2 H2 r20 r21 p2 s2 => ?_⟩
    refine ⟨p, r2, rfl, p2, r20, by omega, fun a3 H3 xs n3 s3 p3 e3 hr3 hl3 => ?_⟩
    have h3p : a3 ≠ p := fun z => by
      obtain ⟨m, n, d, e⟩ := p2
      rw [z, e] at n3; cases n3
    refine ⟨_, rfl, p, 12, rfl, p3, by decide, by decide, fun r4 H4 r40 r41 p4 s4 => ?_⟩
    have s04 : Same H H4 := (rm_of s1 n1).trans (rm_trans (rm_trans s2 s3) s4)
    have e34 : H4 a3 = some (.lst (xs.map V.int)) := rm_look s4 e3 h3p
    obtain ⟨R, hRe⟩ : ∃ R : Nat, 1 + r4 = (R : Int) := ⟨(1 + r4).toNat, by omega⟩
    have hR1 : 1 ≤ R := by omega
    have hR2 : R ≤ 12 := by omega
    -- the tree
    refine ⟨_, rfl, a, 1, ns, rfl, s04.seq ha, hl, by decide, by decide, fun p5 H5 n5 s5 p5' => ?_⟩
    have h35 : a3 ≠ p5 := fun z => by rw [z, n5] at e34; cases e34
    refine ⟨_, rfl, p5, a3, xs, rfl, p5', h35, s5 _ _ e34, hr3, by omega, fun v H6 t s6 p6 g6 k6 => ?_⟩
    have s46 : Same H4 H6 := (rm_of s5 n5).trans s6
    have e36 := s46 _ _ e34
    have ho : t.ord none none := ord_of_rise t _ _ (by rw [k6]; exact hr3) (by simp) (by simp)
    have hkl := Tr.keys_length t
    rw [k6] at hkl
    have hz : t.size ≤ 60 := by omega
    have hht := Tr.ht_size t
    have nd : xs.Nodup := rise_nodup hr3
    have ndt : t.keys.Nodup := by rw [k6]; exact nd
    have s06 := s04.trans s46
    -- the weights
    refine ⟨_, rfl, a, 2, ns, rfl, s06.seq ha, hl, by decide, by decide, fun p7 H7 n7 s7 p7' => ?_⟩
    have e37 := s7 _ _ e36
    have h37 : a3 ≠ p7 := fun z => by rw [z, n7] at e36; cases e36
    refine ⟨_, rfl, a3, rfl, .inl ⟨⟨_, SqL.of e37⟩, fun a8 ha8 => ?_⟩⟩
    have h8p : a8 ≠ p7 := p7'.ne ha8
    have n8 : rm p7 H7 a8 = none := rm_fresh ha8
    refine comp_list (xs := xs.map V.int) (fun i ys σ H' => ∃ (z : Option V) (ws : List Int), σ = [z, some (.ref p7)] ∧ Same (rm p7 H7) H' ∧ Pen3 H' p7 ∧ H' a8 = some (.lst ys) ∧ ys = ws.map V.int ∧ ws.length = i ∧ ∀ x ∈ ws, 0 ≤ x) ⟨none, [], rfl, same_upd rm_same n8, p7'.mono (same_new ha8), upd_same, rfl, rfl, fun x hx => by cases hx⟩ (fun i ys σ H' hh => by obtain ⟨_, _, _, s', _⟩ := hh; exact SqL.of (s' _ _ (by rw [rm_ne h37]; exact e37))) ?_ ?_
    · rintro j ys y σ K1 hy hj ⟨z, ws, rfl, w1, k1, l1, rfl, hwj, hwn⟩
      rw [List.length_map] at hj
      refine ⟨_, rfl, p7, rfl, k1, fun x K2 hx0 k2 w2 => ?_⟩
      have l2 := rm_look w2 l1 h8p
      refine cpost l2 (sizeBig (by rw [List.length_map]; omega)) (by rw [List.length_map]; exact hj) ?_
      refine ⟨_, ws ++ [x], rfl, same_upd (rm_trans w1 w2) n8, k2.off h8p.symm, upd_same, by rw [List.map_append]; rfl, by simp [hwj], fun y hy => ?_⟩
      rcases List.mem_append.mp hy with z | z
      · exact hwn y z
      · rw [List.mem_singleton] at z; rw [z]; exact hx0
    rintro ys σ H8 ⟨z, ws, rfl, s8, p8, e8, rfl, hws, hwn⟩
    rw [List.length_map] at hws
    have s68 : Same H6 H8 := (rm_of s7 n7).trans s8
    have g8 := g6.mono s68
    have e38 := s68 _ _ e36
    have hwt := wt_of nd hws
    have hwn' : ∀ k, 0 ≤ (fun k => ws.getD (xs.idxOf k) 0) k := fun k => by
      show 0 ≤ ws.getD (xs.idxOf k) 0
      rw [List.getD_eq_getElem?_getD]
      cases h : ws[xs.idxOf k]? with
      | none => exact Int.le_refl _
      | some x => exact hwn x (List.mem_of_getElem? h)
    generalize (fun k => ws.getD (xs.idxOf k) 0) = wt at hwt hwn'
    have hkw : t.keys.map wt = ws := by rw [k6]; exact hwt
    have hNn : Nn wt t := fun x _ => hwn' x
    clear s68 s8 s7 s46 s6 s5 s4 s3 s2 s1
    -- by, ups, rows
    refine ⟨_, rfl, _, rfl, a3, a8, xs, _, rfl, e38, e8, by simp; omega, fun bd H9 n9 s9 e9 _ => ?_⟩
    have hby : ∀ k ∈ t.keys, valV (mergeK [] (zipK xs (ws.map V.int))) (Sum.inl k : Key) = some (.int (wt k)) := fun k hk => by
      rw [← hkw, ← k6, merge_val wt k, if_pos hk]
    refine fun ud H10 n10 s10 e10 _ => ?_
    refine ⟨_, rfl, _, rfl, v, t, none, ud, [], rfl, g8.mono (s9.trans s10), by omega, e10, by simp; omega, by rw [List.nil_append]; exact upsL_nodup ndt none, fun H11 s11 e11 => ?_⟩
    rw [List.nil_append] at e11
    refine ⟨(show 0 ≤ sizeLine by decide), fun rw_ H12 n12 s12 e12 _ => ?_⟩
    have K11 : KeepT H10 H11 := KeepT.rm (not_tupD e10) s11
    have hbu : bd ≠ ud := fun z => by rw [z, n10] at e9; cases e9
    have h3u : a3 ≠ ud := fun z => by rw [z] at e38; rw [s9 _ _ e38] at n10; cases n10
    have h8u : a8 ≠ ud := fun z => by rw [z] at e8; rw [s9 _ _ e8] at n10; cases n10
    have e912 : H12 bd = _ := s12 _ _ (rm_look s11 (s10 _ _ e9) hbu)
    have g12 := (tree_keep K11 (g8.mono (s9.trans s10))).mono s12
    refine ⟨_, rfl, _, rfl, _, rfl, _, rfl, v, t, R, bd, rw_, wt, _, [], by rw [hRe], g12, by omega, hz, hR1, by omega, e912, hby, e12, by simp; omega, fun bT sc H13 wr nbT nsc s13 ebT esc erw grw => ?_⟩
    rw [List.nil_append] at erw
    refine ⟨bT, _, rfl, SqT.of ebT, rfl, _, _, rfl, _, _, rfl, rfl, ?_⟩
    -- what stays
    have hpu : p7 ≠ ud := (p8.mono s9).ne n10 |>.symm
    have p11 : Pen3 H11 p7 := by
      obtain ⟨x, y, z, e⟩ := (p8.mono s9).mono s10
      exact ⟨x, y, z, rm_look s11 e hpu⟩
    have hpr : rw_ ≠ p7 := p11.ne n12
    have p13 : Pen3 H13 p7 := by
      obtain ⟨x, y, z, e⟩ := p11.mono s12
      exact ⟨x, y, z, rm_look s13 e hpr.symm⟩
    have hur : ud ≠ rw_ := fun z => by rw [z, n12] at e11; cases e11
    have u13 : H13 ud = some (.dK (upsL t none)) := rm_look s13 (s12 _ _ e11) hur
    have old : ∀ x o, x ≠ ud → H8 x = some o → H13 x = some o := fun x o hx e => by
      have h11 := rm_look s11 (s10 _ _ (s9 _ _ e)) hx
      exact rm_look s13 (s12 _ _ h11) (fun z => by rw [z, n12] at h11; cases h11)
    have K13 : KeepT H12 H13 := KeepT.rm (not_tup e12) s13
    have inB : ∀ x o, x ≠ ud → x ≠ p7 → H13 x = some o → rm ud (rm p7 H13) x = some o := fun x o h1 h2 e => by rw [rm_ne h1, rm_ne h2]; exact e
    have KB : KeepT H13 (rm ud (rm p7 H13)) := fun x vs e => inB x _ (fun z => by rw [z, u13] at e; cases e) (fun z => not_tup3 p13 vs (by rw [← z]; exact e)) e
    have hbr : bd ≠ rw_ := fun z => by rw [z, e12] at e912; cases e912
    have hbp : bd ≠ p7 := p8.ne n9
    have gB : Rep (rm ud (rm p7 H13)) v t.d := tree_keep (K13.trans KB) g12
    have grB := rows_keep KB grw
    have b3 := inB a3 _ h3u h37 (old _ _ h3u e38)
    have b8 := inB a8 _ h8u h8p (old _ _ h8u e8)
    have bb := inB bd _ hbu hbp (rm_look s13 e912 hbr)
    have br := inB rw_ _ hur.symm hpr erw
    have hscu : sc ≠ ud := fun z => by rw [z, s12 _ _ e11] at nsc; cases nsc
    have bs_ := inB sc _ hscu ((p11.mono s12).ne nsc) esc
    have Bu : rm ud (rm p7 H13) ud = none := rm_self
    have Bp : rm ud (rm p7 H13) p7 = none := by rw [rm_ne hpu]; exact rm_self
    have sB0 : Same (rm ud (rm p7 H13)) H13 := fun x o hx => by
      have h1 : x ≠ ud := fun z => by rw [z, Bu] at hx; cases hx
      have h2 : x ≠ p7 := fun z => by rw [z, Bp] at hx; cases hx
      rw [rm_ne h1, rm_ne h2] at hx
      exact hx
    generalize rm ud (rm p7 H13) = B at *
    obtain ⟨zs, hzw, hzk, hzr⟩ := rows_sorted ho grB
    have hzl : zs.length < 64 := by
      have := hzk.length_eq
      rw [List.length_map, k6] at this
      omega
    refine ⟨2, rfl, by decide, by decide, for_range (n := 2) (fun i σ H' => ∃ z11 z12 z13 z14 z15 z16 z17 z18 z19, σ = [some (.ref a), some (.ref p7), some (.ref a3), some (.int (1 + r4)), some v, some (.ref a8), some (.ref bd), some (.ref ud), some (.ref rw_), some (.int (sw wt t)), some (.ref sc), z11, z12, z13, z14, z15, z16, z17, z18, z19] ∧ Same B H' ∧ Pen3 H' p7 ∧ Rd H' ud (.dK (upsL t none)))
      ⟨none, none, none, none, none, none, none, none, none, rfl, sB0, p13, .inl u13⟩ ?_ ?_⟩
    · rintro i σ G0 hi ⟨z11, z12, z13, z14, z15, z16, z17, z18, z19, rfl, sG0, pG0, uG0⟩
      clear old K13 KB inB grB sB0
      refine ⟨_, rfl, a8, _, rfl, .inl (SqL.of (sG0 _ _ b8)), fun hd_ G1 m1 t1 f1 _ => ?_⟩
      have sG1 := sG0.trans t1
      refine ⟨_, rfl, _, rfl, _, rfl, v, t, R, hd_, wt, by rw [hRe], gB.mono sG1, ho, by omega, hz, ndt, hR1, by omega, by rw [hkw]; exact f1, fun bB G2 fb bs L cb wsB nB t2 eB nfb efb pgB hbB ndB pmB lxB ncb hcf hcb ecb rcb => ?_⟩
      have hrows : t.keys.map (rowD R wt t) = (rowsC R wt t).map rwD := by unfold rowsC; rw [List.map_map]; rfl
      rw [hrows] at rcb
      have sG2 := sG1.trans t2
      have hlaid : Laid (tb R wt t (R - 1)) t L := ⟨pmB, ndt⟩
      have repT : Rep G2 (.ref bB) (.tup [.int (least R wt t), Ls L, .lst ((rowsC R wt t).map rwD)]) := .tup eB (.cons (.int _) (.cons (pgB.rep efb) (.cons (.lst ecb rcb) .nil)))
      -- told
      refine ⟨_, rfl, .ref bB, _, _, _, rfl, repT.ty, kit_tuple K _, _, rfl, ?_⟩
      refine iteF ?_
      refine ⟨_, rfl, bB, _, rfl, .inr (SqT.of eB), _, rfl, ?_⟩
      refine iteF ?_
      refine ⟨_, rfl, _, rfl, ne_ints (t2 _ _ f1) (sG2 _ _ b8) ?_⟩
      refine ⟨_, rfl, ?_⟩
      rw [decide_eq_true rfl]
      refine iteF ?_
      apply join (fun σ' H' => σ' = [some (.ref a), some (.ref p7), some (.ref a3), some (.int (1 + r4)), some v, some (.ref a8), some (.ref bd), some (.ref ud), some (.ref rw_), some (.int (sw wt t)), some (.ref sc), some (.int (0 + (i : Int))), some (.ref hd_), some (.ref bB), z14, z15, z16, z17, z18, z19] ∧ Same G2 H')
      case h2 =>
        intro hj
        refine ⟨_, rfl, (show 0 ≤ sizeLine by decide), fun l3 G3 m3 t3 f3 _ => ?_⟩
        refine eq_nil (t3 _ _ (sG2 _ _ b3)) f3 ?_
        refine ⟨_, rfl, ?_⟩
        refine ite2 (fun hx => ?pos) (fun hx => ?neg)
        case neg =>
          refine iteF ?_
          exact hj _ _ ⟨rfl, t3⟩
        case pos =>
          have hx : xs = [] := List.isEmpty_iff.mp hx
          have ht0 : t = .nil := by
            cases t with
            | nil => rfl
            | node l k r => rw [hx] at k6; simp [Tr.keys] at k6
          refine ⟨_, rfl, (show 0 ≤ sizeLine by decide), fun l4 G4 m4 t4 f4 _ => ?_⟩
          refine ⟨(show 0 ≤ sizeLine by decide), fun l5 G5 m5 t5 f5 _ => ?_⟩
          refine ⟨(show 3 ≤ sizeLine by decide), fun l6 G6 m6 t6 f6 _ => ?_⟩
          have t26 := t3.trans (t4.trans (t5.trans t6))
          have hL0 : L = [] := by
            have := hlaid.perm
            rw [ht0] at this
            exact List.Perm.eq_nil this
          have hD : D.tup [.int (least R wt t), Ls L, .lst ((rowsC R wt t).map rwD)] = .tup [.int 0, .lst [], .lst []] := by rw [hL0, ht0]; rfl
          rw [hD] at repT
          refine ne_same (repT.mono t26) (.tup f6 (.cons (.int 0) (.cons (.lst (t6 _ _ (t5 _ _ f4)) .nil) (.cons (.lst (t6 _ _ f5) .nil) .nil)))) rfl (by decide) ?_
          refine ⟨_, rfl, ?_⟩
          refine iteF ?_
          exact hj _ _ ⟨rfl, t26⟩
      rintro σ3 G3 ⟨rfl, t3⟩
      refine ⟨_, rfl, bB, _, rfl, SqT.of (t3 _ _ eB), rfl, _, _, rfl, _, _, rfl, _, _, rfl, rfl, ?_⟩
      have sG3 := sG2.trans t3
      refine ⟨_, rfl, _, rfl, sc, _, 0, _, rfl, rfl, .inl (SqL.of (sG3 _ _ bs_)), atI_nat (j := 0) (sds_at (by omega)), _, rfl, ?_⟩
      rw [show sd R wt t 0 = least R wt t from rfl, decide_eq_true rfl]
      refine iteF ?_
      refine ⟨_, rfl, .int _, _, _, _, rfl, (Rep.int (H := G3) _).ty, kit_bool K (.int _), _, rfl, ?_⟩
      refine iteF ?_
      have hzn : (zs.map (·.2)).Nodup := hzk.nodup_iff.mpr ndt
      refine ⟨_, rfl, _, rfl, rw_, zs, rfl, SqL.of (by rw [← hzw]; exact sG3 _ _ br), hzl, (fun z hz => ?_), hzn, fun q4 G4 ys m4 t4 f4 _ pm4 so4 => ?_⟩
      · obtain ⟨b, c, e, eb, ec⟩ := rep_row (hzr z hz)
        cases e
        exact ⟨[.ref c], SqT.of (sG3 _ _ eb)⟩
      have sG4 := sG3.trans t4
      have hpR : (D.lst ((rowsC R wt t).map rwD)).pure = true := by rw [D.pure]; exact pures_map pure_row _
      have hdR : (D.lst ((rowsC R wt t).map rwD)).dep ≤ 140 := by have := deps_rows (rowsC R wt t); rw [D.dep]; omega
      refine ne_same (.lst (t4 _ _ (t3 _ _ ecb)) ((rcb.mono t3).mono t4)) (.lst f4 (sorted_rows ho hzk (fun z hz => (hzr z hz).mono sG4) pm4 so4)) hpR hdR ?_
      refine ⟨_, rfl, ?_⟩
      refine iteF ?_
      have t24 := t3.trans t4
      refine ⟨_, rfl, .ref fb, _, _, _, rfl, ((pgB.rep efb).mono t24).ty, kit_list K _, _, rfl, ?_⟩
      refine iteF ?_
      -- the pages
      have hfl := hlaid.flat.length_eq
      rw [Tr.keys_length] at hfl
      have hfn : L.flatten.Nodup := hlaid.flat.nodup_iff.mpr ndt
      refine ⟨_, rfl, _, rfl, _, rfl, fb, a3, R, bs, L, xs, by rw [hRe], t24 _ _ efb, sG4 _ _ b3, pgB.mono t24, hfn, by omega, by omega, (fun x hx => by rw [← k6]; exact hlaid.flat.mem_iff.mp hx), (fun p hp => (page_sz hR1 hlaid hp).2), fun pd G5 kp m5 t5 f5 hk5 hv5 => ?_⟩
      have sG5 := sG4.trans t5
      have t25 := t24.trans t5
      have hval : ∀ x ∈ t.keys, valV kp (Sum.inl x : Key) = some (.int (numP L x : Int)) := fun x hx => by
        rw [hv5 x, numP_eq (hlaid.flat.mem_iff.mpr hx)]; rfl
      refine ⟨_, rfl, rfl, _, rfl, ?_⟩
      refine iteF ?_
      have uG1 := rd_mono uG0 t1
      have uG4 := rd_mono (rd_mono uG1 t2) t24
      have pG5 := ((pG0.mono t1).mono t2).mono t25
      have notu : ∀ x, G4 x = none → ud ≠ x := fun x hx z => by
        rcases uG4 with e | ⟨o, e⟩
        · rw [z, hx] at e; cases e
        · rw [z, hx] at e; cases e
      have notu1 : ∀ x, G1 x = none → ud ≠ x := fun x hx z => by
        rcases uG1 with e | ⟨o, e⟩
        · rw [z, hx] at e; cases e
        · rw [z, hx] at e; cases e
      refine ⟨_, rfl, _, rfl, _, rfl, _, rfl, fb, ud, pd, bd, R, wt, t, bs, L, kp, _, rfl, t25 _ _ efb, pgB.mono t25, ho, hz, hR1, by omega, hlaid, rd_mono uG4 t5, f5, hval, sG5 _ _ bb, hby, notu pd m5, hbu.symm, fun G6 t6 u6 => ?_⟩
      refine ⟨_, rfl, _, rfl, ?_⟩
      rw [decide_eq_true rfl]
      refine iteF ?_
      have sG6 := through Bu sG5 t6
      have K26 : KeepT G2 G6 := (KeepT.same t25).trans (KeepT.rm (fun vs z => by
        rcases rd_mono uG4 t5 with e | ⟨o, e⟩
        · rw [e] at z; cases z
        · rw [e] at z; cases z) t6)
      have keep : ∀ x o, G1 x = none → G2 x = some o → G6 x = some o := fun x o hx e => rm_look t6 (t25 _ _ e) (notu1 x hx).symm
      have pG6 : Pen3 G6 p7 := by
        obtain ⟨x, y, z, e⟩ := pG5
        exact ⟨x, y, z, rm_look t6 e hpu⟩
      have ecb6 := keep cb _ ncb ecb
      have r6 := rows_keep K26 rcb
      have hrl := rowsC_len R wt t
      have wlen : H13 = H13 := rfl
      refine ⟨_, rfl, _, rfl, _, rfl, _, rfl, _, rfl, v, t, R, a8, cb, wt, wsB, rowsC R wt t, least R wt t, by rw [hRe], gB.mono sG6, ho, by omega, hz, ndt, hR1, by omega, by rw [hkw]; exact sG6 _ _ b8, ecb6, r6, by omega, rowsC_R, fun G7 t7 => ?_⟩
      rw [shows_told hR1 ho ndt hNn, decide_eq_true (Int.le_refl _)]
      refine ⟨true, true, rfl, rfl, _, rfl, ?_⟩
      rw [decide_eq_true rfl]
      refine iteF ?_
      refine ⟨_, rfl, _, rfl, _, rfl, _, rfl, _, rfl, v, t, R, a8, cb, wt, wsB, rowsC R wt t, least R wt t + 1, by rw [hRe], gB.mono (sG6.trans t7), ho, by omega, hz, ndt, hR1, by omega, by rw [hkw]; exact t7 _ _ (sG6 _ _ b8), t7 _ _ ecb6, r6.mono t7, by omega, rowsC_R, fun G8 t8 => ?_⟩
      rw [shows_told hR1 ho ndt hNn, decide_eq_false (by omega)]
      refine ⟨false, false, rfl, rfl, _, rfl, ?_⟩
      rw [decide_eq_true rfl]
      refine iteF ?_
      have t68 := t7.trans t8
      have sG8 := sG6.trans t68
      have pG8 := pG6.mono t68
      have uG8 := rd_mono u6 t68
      have nB1 : ∀ x, G1 x = none → B x = none := fun x hx => sG1.free hx
      apply join (fun σ' H' => ∃ z18', σ' = [some (.ref a), some (.ref p7), some (.ref a3), some (.int (1 + r4)), some v, some (.ref a8), some (.ref bd), some (.ref ud), some (.ref rw_), some (.int (sw wt t)), some (.ref sc), some (.int (0 + (i : Int))), some (.ref hd_), some (.ref bB), some (.int (least R wt t)), some (.ref fb), some (.ref cb), some (.ref pd), z18', z19] ∧ Same B H' ∧ Pen3 H' p7 ∧ Rd H' ud (.dK (upsL t none)) ∧ ∀ x o, x ≠ p7 → G8 x = some o → H' x = some o)
      case h2 =>
        intro hj
        refine ⟨_, rfl, (show 0 ≤ sizeLine by decide), fun l9 G9 m9 t9 f9 _ => ?_⟩
        refine ne_ints (ys := []) (t9 _ _ (sG8 _ _ b3)) f9 ?_
        refine ⟨_, rfl, ?_⟩
        by_cases hx : xs = []
        · rw [decide_eq_true hx]
          refine iteF ?_
          exact hj _ _ ⟨_, rfl, sG8.trans t9, pG8.mono t9, rd_mono uG8 t9, fun x o _ e => t9 _ _ e⟩
        · rw [decide_eq_false hx]
          refine iteT ?_
          have hxl : 1 ≤ xs.length := by cases xs with | nil => exact absurd rfl hx | cons => simp
          have hcp : cb ≠ p7 := (pG0.mono t1).ne ncb
          refine ⟨_, rfl, _, rfl, p7, cb, R, wsB, rowsC R wt t, rfl, pG8.mono t9, t9 _ _ (t68 _ _ ecb6), hcp, (r6.mono t68).mono t9, by omega, by omega, rowsC_R, hR1, by omega, fun rA GA wsA iA jA eA tA pA fA heA hjA gA => ?_⟩
          have sGA := through Bp (sG8.trans t9) tA
          have uGA := rd_rm (rd_mono uG8 t9) hpu.symm tA
          refine ⟨_, rfl, _, rfl, _, rfl, _, rfl, v, t, R, a8, rA, wt, wsA, _, 0, by rw [hRe], gB.mono sGA, ho, by omega, hz, ndt, hR1, by omega, by rw [hkw]; exact sGA _ _ b8, fA, gA, by rw [List.length_set]; omega, ?_, fun GB' tB => ?_⟩
          · intro e he
            rcases List.mem_or_eq_of_mem_set he with z | z
            · exact rowsC_R e z
            · rw [z]
              dsimp only
              rw [List.length_set]
              exact rowsC_R eA (List.mem_of_getElem? heA)
          · rw [raised_no hR1 ho ndt heA hjA]
            refine ⟨false, false, rfl, rfl, _, rfl, ?_⟩
            rw [decide_eq_true rfl]
            refine iteF ?_
            exact hj _ _ ⟨_, rfl, sGA.trans tB, pA.mono tB, rd_mono uGA tB, fun x o hx e => tB _ _ (rm_look tA (t9 _ _ e) hx)⟩
      rintro σ9 G9 ⟨z18', rfl, sG9, pG9, uG9, k9⟩
      have pG1 := pG0.mono t1
      have at9 : ∀ x o, G1 x = none → G2 x = some o → G9 x = some o := fun x o hx e => k9 x o (pG1.ne hx) (t68 _ _ (keep x o hx e))
      have ecb9 := at9 cb _ ncb ecb
      have efb9 := at9 fb _ nfb efb
      have hbfl : bs.length ≤ 60 := by
        have h1 := pgB.len
        have h2 : ∀ X : List (List Int), (∀ p ∈ X, 1 ≤ p.length) → X.length ≤ X.flatten.length := fun X => by
          induction X with
          | nil => intro _; exact Nat.le_refl _
          | cons p X ih =>
            intro h
            have h1 := ih fun q hq => h q (.tail _ hq)
            have h2 := h p (.head _)
            rw [List.flatten_cons, List.length_append, List.length_cons]; omega
        have h3 := h2 L fun p hp => (page_sz hR1 hlaid hp).1
        omega
      refine ⟨_, rfl, .inl ⟨rfl, _, SqL.of ecb9⟩, cb, _, rfl, rfl, ecb9, ?_⟩
      have hfb : fb ∉ bs := fun h => (hbB fb h).2 rfl
      have sGA : Same B (upd G9 cb (.lst [])) := same_upd sG9 (nB1 cb ncb)
      have hcp : cb ≠ p7 := pG1.ne ncb
      have pGA : Pen3 (upd G9 cb (.lst [])) p7 := pG9.off hcp.symm
      have hcu := notu1 cb ncb
      have uGA : Rd (upd G9 cb (.lst [])) ud (.dK (upsL t none)) := by
        rcases uG9 with e | ⟨o, e⟩
        · exact .inl (by rw [upd_ne hcu]; exact e)
        · exact .inr ⟨o, by rw [upd_ne hcu]; exact e⟩
      have efA : upd G9 cb (.lst []) fb = some (.lst (bs.map V.ref)) := by rw [upd_ne hcf.symm]; exact efb9
      have ebA : ∀ b ∈ bs, ∃ ys : List V, upd G9 cb (.lst []) b = some (.lst ys) ∧ ys.length ≤ 60 := fun b hb => by
        obtain ⟨pp, hp, eb⟩ := pgB.of hb
        refine ⟨pp.map V.int, by rw [upd_ne (fun z => hcb (by rw [← z]; exact hb))]; exact at9 b _ (hbB b hb).1 eb, ?_⟩
        have := (page_sz hR1 hlaid hp).2
        rw [List.length_map]; omega
      have hdl : ∃ ys : List V, upd G9 cb (.lst []) hd_ = some (.lst ys) := by
        have h1 : hd_ ≠ cb := fun z => by rw [← z, f1] at ncb; cases ncb
        have h2 : G6 hd_ = some (.lst (ws.map V.int)) := rm_look t6 (t25 _ _ (t2 _ _ f1)) (fun z => by
          rcases uG0 with e | ⟨o, e⟩
          · rw [← z, m1] at e; cases e
          · rw [← z, m1] at e; cases e)
        exact ⟨_, by rw [upd_ne h1]; exact k9 _ _ (pG0.ne m1) (t68 _ _ h2)⟩
      have hhb : hd_ ∉ bs := fun h => by
        have := (hbB hd_ h).1
        rw [f1] at this; cases this
      generalize upd G9 cb (.lst []) = GA at *
      refine ⟨_, rfl, fb, rfl, .inl ⟨⟨_, SqL.of efA⟩, for_list (xs := bs.map V.ref) (fun j σ H' => ∃ z, σ = [some (.ref a), some (.ref p7), some (.ref a3), some (.int (1 + r4)), some v, some (.ref a8), some (.ref bd), some (.ref ud), some (.ref rw_), some (.int (sw wt t)), some (.ref sc), some (.int (0 + (i : Int))), some (.ref hd_), some (.ref bB), some (.int (least R wt t)), some (.ref fb), some (.ref cb), some (.ref pd), z18', z] ∧ Same B H' ∧ Pen3 H' p7 ∧ Rd H' ud (.dK (upsL t none)) ∧ H' fb = some (.lst (bs.map V.ref)) ∧ (∃ ys : List V, H' hd_ = some (.lst ys)) ∧ ∀ b ∈ bs, ∃ ys : List V, H' b = some (.lst ys) ∧ ys.length ≤ 60 + j)
        ⟨z19, rfl, sGA, pGA, uGA, efA, hdl, ebA⟩ (fun j σ H' _ hh => by obtain ⟨_, _, _, _, _, e', _⟩ := hh; exact SqL.of e') ?_ ?_⟩⟩
      · rintro j y σ GB' hy ⟨z, rfl, sGB, pGB, uGB, efB, hdB, ebB⟩
        rw [List.getElem?_map] at hy
        obtain ⟨b, hby', rfl⟩ := Option.map_eq_some_iff.mp hy
        have hbm := List.mem_of_getElem? hby'
        have hjl := (List.getElem?_eq_some_iff.mp hby').1
        obtain ⟨ys', ex, hxl⟩ := ebB b hbm
        have nb1 := (hbB b hbm).1
        have hbu' := notu1 b nb1
        refine ⟨_, rfl, .inl ⟨rfl, _, SqL.of ex⟩, b, _, _, rfl, rfl, ex, sizeBig (by omega), ?_⟩
        refine ⟨_, rfl, same_upd sGB (nB1 b nb1), pGB.off (pG1.ne nb1).symm, ?_, by rw [upd_ne (fun z => hfb (by rw [z]; exact hbm))]; exact efB, ?_, fun c hc => ?_⟩
        · rcases uGB with e | ⟨o, e⟩
          · exact .inl (by rw [upd_ne hbu']; exact e)
          · exact .inr ⟨o, by rw [upd_ne hbu']; exact e⟩
        · obtain ⟨ys2, e2⟩ := hdB
          exact ⟨ys2, by rw [upd_ne (fun z => hhb (by rw [z]; exact hbm))]; exact e2⟩
        · by_cases hcb' : c = b
          · subst hcb'
            exact ⟨_, upd_same, by rw [List.length_append, List.length_singleton]; omega⟩
          · obtain ⟨xs', ex', hxl'⟩ := ebB c hc
            exact ⟨xs', by rw [upd_ne hcb']; exact ex', by omega⟩
      · rintro σ GB' ⟨z, rfl, sGB, pGB, uGB, efB, ⟨ys2, e2⟩, ebB⟩
        refine ⟨_, rfl, .inl ⟨rfl, _, SqL.of e2⟩, hd_, _, rfl, rfl, e2, ?_⟩
        have hdu : ud ≠ hd_ := fun z => by
          rcases uG0 with e | ⟨o, e⟩
          · rw [z, m1] at e; cases e
          · rw [z, m1] at e; cases e
        refine ⟨_, _, _, _, _, _, _, _, _, rfl, same_upd sGB (sG0.free m1), pGB.off (pG0.ne m1).symm, ?_⟩
        rcases uGB with e | ⟨o, e⟩
        · exact .inl (by rw [upd_ne hdu]; exact e)
        · exact .inr ⟨o, by rw [upd_ne hdu]; exact e⟩
    · rintro σ G0 ⟨z11, z12, z13, z14, z15, z16, z17, z18, z19, rfl, sG0, pG0, uG0⟩
      exact q G0
end
end K18
namespace K18
open PySem L2 L3
theorem all_mk {l : PySem.W.OpenLaw} {w : World} {K : PySem.W.Frag} {h : Heap} {mg : Str → Option Value} {fa : Addr} (X : K.In h) (G : h.Ns mainGlobals mg) (hfa : mg "law" = some (.ref fa))
    {f0 : Addr} {oc0 kV0 dc0 pm0 cd0 ct0 : Value} {od0 an0 : Option Addr} {sl0 : Array (Option Value)}
    {f1 : Addr} {oc1 kV1 dc1 pm1 cd1 ct1 : Value} {od1 an1 : Option Addr} {sl1 : Array (Option Value)}
    {f2 : Addr} {oc2 kV2 dc2 pm2 cd2 ct2 : Value} {od2 an2 : Option Addr} {sl2 : Array (Option Value)}
    {f3 : Addr} {oc3 kV3 dc3 pm3 cd3 ct3 : Value} {od3 an3 : Option Addr} {sl3 : Array (Option Value)}
    {f4 : Addr} {oc4 kV4 dc4 pm4 cd4 ct4 : Value} {od4 an4 : Option Addr} {sl4 : Array (Option Value)}
    {f5 : Addr} {oc5 kV5 dc5 pm5 cd5 ct5 : Value} {od5 an5 : Option Addr} {sl5 : Array (Option Value)}
    {f6 : Addr} {oc6 kV6 dc6 pm6 cd6 ct6 : Value} {od6 an6 : Option Addr} {sl6 : Array (Option Value)}
    {f7 : Addr} {oc7 kV7 dc7 pm7 cd7 ct7 : Value} {od7 an7 : Option Addr} {sl7 : Array (Option Value)}
    {f8 : Addr} {oc8 kV8 dc8 pm8 cd8 ct8 : Value} {od8 an8 : Option Addr} {sl8 : Array (Option Value)}
    {f9 : Addr} {oc9 kV9 dc9 pm9 cd9 ct9 : Value} {od9 an9 : Option Addr} {sl9 : Array (Option Value)}
    {f10 : Addr} {oc10 kV10 dc10 pm10 cd10 ct10 : Value} {od10 an10 : Option Addr} {sl10 : Array (Option Value)}
    {f11 : Addr} {oc11 kV11 dc11 pm11 cd11 ct11 : Value} {od11 an11 : Option Addr} {sl11 : Array (Option Value)}
    {f12 : Addr} {oc12 kV12 dc12 pm12 cd12 ct12 : Value} {od12 an12 : Option Addr} {sl12 : Array (Option Value)}
    {f13 : Addr} {oc13 kV13 dc13 pm13 cd13 ct13 : Value} {od13 an13 : Option Addr} {sl13 : Array (Option Value)}
    {f14 : Addr} {oc14 kV14 dc14 pm14 cd14 ct14 : Value} {od14 an14 : Option Addr} {sl14 : Array (Option Value)}
    {f15 : Addr} {oc15 kV15 dc15 pm15 cd15 ct15 : Value} {od15 an15 : Option Addr} {sl15 : Array (Option Value)}
    {f16 : Addr} {oc16 kV16 dc16 pm16 cd16 ct16 : Value} {od16 an16 : Option Addr} {sl16 : Array (Option Value)}
    {f17 : Addr} {oc17 kV17 dc17 pm17 cd17 ct17 : Value} {od17 an17 : Option Addr} {sl17 : Array (Option Value)}
    {f18 : Addr} {oc18 kV18 dc18 pm18 cd18 ct18 : Value} {od18 an18 : Option Addr} {sl18 : Array (Option Value)}
    {f19 : Addr} {oc19 kV19 dc19 pm19 cd19 ct19 : Value} {od19 an19 : Option Addr} {sl19 : Array (Option Value)}
    {f20 : Addr} {oc20 kV20 dc20 pm20 cd20 ct20 : Value} {od20 an20 : Option Addr} {sl20 : Array (Option Value)}
    {f21 : Addr} {oc21 kV21 dc21 pm21 cd21 ct21 : Value} {od21 an21 : Option Addr} {sl21 : Array (Option Value)}
    {f22 : Addr} {oc22 kV22 dc22 pm22 cd22 ct22 : Value} {od22 an22 : Option Addr} {sl22 : Array (Option Value)}
    {f23 : Addr} {oc23 kV23 dc23 pm23 cd23 ct23 : Value} {od23 an23 : Option Addr} {sl23 : Array (Option Value)}
    {f24 : Addr} {oc24 kV24 dc24 pm24 cd24 ct24 : Value} {od24 an24 : Option Addr} {sl24 : Array (Option Value)}
    {f25 : Addr} {oc25 kV25 dc25 pm25 cd25 ct25 : Value} {od25 an25 : Option Addr} {sl25 : Array (Option Value)}
    {f26 : Addr} {oc26 kV26 dc26 pm26 cd26 ct26 : Value} {od26 an26 : Option Addr} {sl26 : Array (Option Value)}
    {f27 : Addr} {oc27 kV27 dc27 pm27 cd27 ct27 : Value} {od27 an27 : Option Addr} {sl27 : Array (Option Value)}
    (a0 : PySem.W.nsIn K mainGlobals "keys_of" = some (some (.ref f0))) (l0 : K.lookup f0 = some ⟨oc0, od0, .func (PySem.W.fnOf "keys_of" "keys_of" (defArgs s_keys_of) (defBody s_keys_of) (defScope s_keys_of) .none kV0 dc0 pm0 an0 cd0 ct0), sl0⟩) (c0 : PySem.W.codeIn K cd0 "keys_of" = true) (k0 : PySem.W.keepIn K (.ref f0) = true)
    (a1 : PySem.W.nsIn K mainGlobals "with_kids" = some (some (.ref f1))) (l1 : K.lookup f1 = some ⟨oc1, od1, .func (PySem.W.fnOf "with_kids" "with_kids" (defArgs s_with_kids) (defBody s_with_kids) (defScope s_with_kids) .none kV1 dc1 pm1 an1 cd1 ct1), sl1⟩) (c1 : PySem.W.codeIn K cd1 "with_kids" = true) (k1 : PySem.W.keepIn K (.ref f1) = true)
    (a2 : PySem.W.nsIn K mainGlobals "side_towards" = some (some (.ref f2))) (l2 : K.lookup f2 = some ⟨oc2, od2, .func (PySem.W.fnOf "side_towards" "side_towards" (defArgs s_side_towards) (defBody s_side_towards) (defScope s_side_towards) .none kV2 dc2 pm2 an2 cd2 ct2), sl2⟩) (c2 : PySem.W.codeIn K cd2 "side_towards" = true) (k2 : PySem.W.keepIn K (.ref f2) = true)
    (a3 : PySem.W.nsIn K mainGlobals "knot_at" = some (some (.ref f3))) (l3 : K.lookup f3 = some ⟨oc3, od3, .func (PySem.W.fnOf "knot_at" "knot_at" (defArgs s_knot_at) (defBody s_knot_at) (defScope s_knot_at) .none kV3 dc3 pm3 an3 cd3 ct3), sl3⟩) (c3 : PySem.W.codeIn K cd3 "knot_at" = true) (k3 : PySem.W.keepIn K (.ref f3) = true)
    (a4 : PySem.W.nsIn K mainGlobals "pages_tied" = some (some (.ref f4))) (l4 : K.lookup f4 = some ⟨oc4, od4, .func (PySem.W.fnOf "pages_tied" "pages_tied" (defArgs s_pages_tied) (defBody s_pages_tied) (defScope s_pages_tied) .none kV4 dc4 pm4 an4 cd4 ct4), sl4⟩) (c4 : PySem.W.codeIn K cd4 "pages_tied" = true) (k4 : PySem.W.keepIn K (.ref f4) = true)
    (a5 : PySem.W.nsIn K mainGlobals "burdens_by_key" = some (some (.ref f5))) (l5 : K.lookup f5 = some ⟨oc5, od5, .func (PySem.W.fnOf "burdens_by_key" "burdens_by_key" (defArgs s_burdens_by_key) (defBody s_burdens_by_key) (defScope s_burdens_by_key) .none kV5 dc5 pm5 an5 cd5 ct5), sl5⟩) (c5 : PySem.W.codeIn K cd5 "burdens_by_key" = true) (k5 : PySem.W.keepIn K (.ref f5) = true)
    (a6 : PySem.W.nsIn K mainGlobals "side_sums" = some (some (.ref f6))) (l6 : K.lookup f6 = some ⟨oc6, od6, .func (PySem.W.fnOf "side_sums" "side_sums" (defArgs s_side_sums) (defBody s_side_sums) (defScope s_side_sums) .none kV6 dc6 pm6 an6 cd6 ct6), sl6⟩) (c6 : PySem.W.codeIn K cd6 "side_sums" = true) (k6 : PySem.W.keepIn K (.ref f6) = true)
    (a7 : PySem.W.nsIn K mainGlobals "sums_over_shares" = some (some (.ref f7))) (l7 : K.lookup f7 = some ⟨oc7, od7, .func (PySem.W.fnOf "sums_over_shares" "sums_over_shares" (defArgs s_sums_over_shares) (defBody s_sums_over_shares) (defScope s_sums_over_shares) .none kV7 dc7 pm7 an7 cd7 ct7), sl7⟩) (c7 : PySem.W.codeIn K cd7 "sums_over_shares" = true) (k7 : PySem.W.keepIn K (.ref f7) = true)
    (a8 : PySem.W.nsIn K mainGlobals "made_costs" = some (some (.ref f8))) (l8 : K.lookup f8 = some ⟨oc8, od8, .func (PySem.W.fnOf "made_costs" "made_costs" (defArgs s_made_costs) (defBody s_made_costs) (defScope s_made_costs) .none kV8 dc8 pm8 an8 cd8 ct8), sl8⟩) (c8 : PySem.W.codeIn K cd8 "made_costs" = true) (k8 : PySem.W.keepIn K (.ref f8) = true)
    (a9 : PySem.W.nsIn K mainGlobals "costs_by_key" = some (some (.ref f9))) (l9 : K.lookup f9 = some ⟨oc9, od9, .func (PySem.W.fnOf "costs_by_key" "costs_by_key" (defArgs s_costs_by_key) (defBody s_costs_by_key) (defScope s_costs_by_key) .none kV9 dc9 pm9 an9 cd9 ct9), sl9⟩) (c9 : PySem.W.codeIn K cd9 "costs_by_key" = true) (k9 : PySem.W.keepIn K (.ref f9) = true)
    (a10 : PySem.W.nsIn K mainGlobals "tied_below" = some (some (.ref f10))) (l10 : K.lookup f10 = some ⟨oc10, od10, .func (PySem.W.fnOf "tied_below" "tied_below" (defArgs s_tied_below) (defBody s_tied_below) (defScope s_tied_below) .none kV10 dc10 pm10 an10 cd10 ct10), sl10⟩) (c10 : PySem.W.codeIn K cd10 "tied_below" = true) (k10 : PySem.W.keepIn K (.ref f10) = true)
    (a11 : PySem.W.nsIn K mainGlobals "least_cost" = some (some (.ref f11))) (l11 : K.lookup f11 = some ⟨oc11, od11, .func (PySem.W.fnOf "least_cost" "least_cost" (defArgs s_least_cost) (defBody s_least_cost) (defScope s_least_cost) .none kV11 dc11 pm11 an11 cd11 ct11), sl11⟩) (c11 : PySem.W.codeIn K cd11 "least_cost" = true) (k11 : PySem.W.keepIn K (.ref f11) = true)
    (a12 : PySem.W.nsIn K mainGlobals "cheapest" = some (some (.ref f12))) (l12 : K.lookup f12 = some ⟨oc12, od12, .func (PySem.W.fnOf "cheapest" "cheapest" (defArgs s_cheapest) (defBody s_cheapest) (defScope s_cheapest) .none kV12 dc12 pm12 an12 cd12 ct12), sl12⟩) (c12 : PySem.W.codeIn K cd12 "cheapest" = true) (k12 : PySem.W.keepIn K (.ref f12) = true)
    (a13 : PySem.W.nsIn K mainGlobals "never_rises" = some (some (.ref f13))) (l13 : K.lookup f13 = some ⟨oc13, od13, .func (PySem.W.fnOf "never_rises" "never_rises" (defArgs s_never_rises) (defBody s_never_rises) (defScope s_never_rises) .none kV13 dc13 pm13 an13 cd13 ct13), sl13⟩) (c13 : PySem.W.codeIn K cd13 "never_rises" = true) (k13 : PySem.W.keepIn K (.ref f13) = true)
    (a14 : PySem.W.nsIn K mainGlobals "is_at_most" = some (some (.ref f14))) (l14 : K.lookup f14 = some ⟨oc14, od14, .func (PySem.W.fnOf "is_at_most" "is_at_most" (defArgs s_is_at_most) (defBody s_is_at_most) (defScope s_is_at_most) .none kV14 dc14 pm14 an14 cd14 ct14), sl14⟩) (c14 : PySem.W.codeIn K cd14 "is_at_most" = true) (k14 : PySem.W.keepIn K (.ref f14) = true)
    (a15 : PySem.W.nsIn K mainGlobals "shows_cost" = some (some (.ref f15))) (l15 : K.lookup f15 = some ⟨oc15, od15, .func (PySem.W.fnOf "shows_cost" "shows_cost" (defArgs s_shows_cost) (defBody s_shows_cost) (defScope s_shows_cost) .none kV15 dc15 pm15 an15 cd15 ct15), sl15⟩) (c15 : PySem.W.codeIn K cd15 "shows_cost" = true) (k15 : PySem.W.keepIn K (.ref f15) = true)
    (a16 : PySem.W.nsIn K mainGlobals "_law_pen" = some (some (.ref f16))) (l16 : K.lookup f16 = some ⟨oc16, od16, .func (PySem.W.fnOf "_law_pen" "_law_pen" (defArgs s_law_pen) (defBody s_law_pen) (defScope s_law_pen) .none kV16 dc16 pm16 an16 cd16 ct16), sl16⟩) (c16 : PySem.W.codeIn K cd16 "_law_pen" = true) (k16 : PySem.W.keepIn K (.ref f16) = true)
    (a17 : PySem.W.nsIn K mainGlobals "_law_draw" = some (some (.ref f17))) (l17 : K.lookup f17 = some ⟨oc17, od17, .func (PySem.W.fnOf "_law_draw" "_law_draw" (defArgs s_law_draw) (defBody s_law_draw) (defScope s_law_draw) .none kV17 dc17 pm17 an17 cd17 ct17), sl17⟩) (c17 : PySem.W.codeIn K cd17 "_law_draw" = true) (k17 : PySem.W.keepIn K (.ref f17) = true)
    (a18 : PySem.W.nsIn K mainGlobals "_law_put" = some (some (.ref f18))) (l18 : K.lookup f18 = some ⟨oc18, od18, .func (PySem.W.fnOf "_law_put" "_law_put" (defArgs s_law_put) (defBody s_law_put) (defScope s_law_put) .none kV18 dc18 pm18 an18 cd18 ct18), sl18⟩) (c18 : PySem.W.codeIn K cd18 "_law_put" = true) (k18 : PySem.W.keepIn K (.ref f18) = true)
    (a19 : PySem.W.nsIn K mainGlobals "_law_keys" = some (some (.ref f19))) (l19 : K.lookup f19 = some ⟨oc19, od19, .func (PySem.W.fnOf "_law_keys" "_law_keys" (defArgs s_law_keys) (defBody s_law_keys) (defScope s_law_keys) .none kV19 dc19 pm19 an19 cd19 ct19), sl19⟩) (c19 : PySem.W.codeIn K cd19 "_law_keys" = true) (k19 : PySem.W.keepIn K (.ref f19) = true)
    (a20 : PySem.W.nsIn K mainGlobals "_law_tree" = some (some (.ref f20))) (l20 : K.lookup f20 = some ⟨oc20, od20, .func (PySem.W.fnOf "_law_tree" "_law_tree" (defArgs s_law_tree) (defBody s_law_tree) (defScope s_law_tree) .none kV20 dc20 pm20 an20 cd20 ct20), sl20⟩) (c20 : PySem.W.codeIn K cd20 "_law_tree" = true) (k20 : PySem.W.keepIn K (.ref f20) = true)
    (a21 : PySem.W.nsIn K mainGlobals "_law_weight" = some (some (.ref f21))) (l21 : K.lookup f21 = some ⟨oc21, od21, .func (PySem.W.fnOf "_law_weight" "_law_weight" (defArgs s_law_weight) (defBody s_law_weight) (defScope s_law_weight) .none kV21 dc21 pm21 an21 cd21 ct21), sl21⟩) (c21 : PySem.W.codeIn K cd21 "_law_weight" = true) (k21 : PySem.W.keepIn K (.ref f21) = true)
    (a22 : PySem.W.nsIn K mainGlobals "_law_reckoned" = some (some (.ref f22))) (l22 : K.lookup f22 = some ⟨oc22, od22, .func (PySem.W.fnOf "_law_reckoned" "_law_reckoned" (defArgs s_law_reckoned) (defBody s_law_reckoned) (defScope s_law_reckoned) .none kV22 dc22 pm22 an22 cd22 ct22), sl22⟩) (c22 : PySem.W.codeIn K cd22 "_law_reckoned" = true) (k22 : PySem.W.keepIn K (.ref f22) = true)
    (a23 : PySem.W.nsIn K mainGlobals "_law_ups" = some (some (.ref f23))) (l23 : K.lookup f23 = some ⟨oc23, od23, .func (PySem.W.fnOf "_law_ups" "_law_ups" (defArgs s_law_ups) (defBody s_law_ups) (defScope s_law_ups) .none kV23 dc23 pm23 an23 cd23 ct23), sl23⟩) (c23 : PySem.W.codeIn K cd23 "_law_ups" = true) (k23 : PySem.W.keepIn K (.ref f23) = true)
    (a24 : PySem.W.nsIn K mainGlobals "_law_page_of" = some (some (.ref f24))) (l24 : K.lookup f24 = some ⟨oc24, od24, .func (PySem.W.fnOf "_law_page_of" "_law_page_of" (defArgs s_law_page_of) (defBody s_law_page_of) (defScope s_law_page_of) .none kV24 dc24 pm24 an24 cd24 ct24), sl24⟩) (c24 : PySem.W.codeIn K cd24 "_law_page_of" = true) (k24 : PySem.W.keepIn K (.ref f24) = true)
    (a25 : PySem.W.nsIn K mainGlobals "_law_dear" = some (some (.ref f25))) (l25 : K.lookup f25 = some ⟨oc25, od25, .func (PySem.W.fnOf "_law_dear" "_law_dear" (defArgs s_law_dear) (defBody s_law_dear) (defScope s_law_dear) .none kV25 dc25 pm25 an25 cd25 ct25), sl25⟩) (c25 : PySem.W.codeIn K cd25 "_law_dear" = true) (k25 : PySem.W.keepIn K (.ref f25) = true)
    (a26 : PySem.W.nsIn K mainGlobals "_law_raised" = some (some (.ref f26))) (l26 : K.lookup f26 = some ⟨oc26, od26, .func (PySem.W.fnOf "_law_raised" "_law_raised" (defArgs s_law_raised) (defBody s_law_raised) (defScope s_law_raised) .none kV26 dc26 pm26 an26 cd26 ct26), sl26⟩) (c26 : PySem.W.codeIn K cd26 "_law_raised" = true) (k26 : PySem.W.keepIn K (.ref f26) = true)
    (a27 : PySem.W.nsIn K mainGlobals "law" = some (some (.ref f27))) (l27 : K.lookup f27 = some ⟨oc27, od27, .func (PySem.W.fnOf "law" "law" (defArgs s_law) (defBody s_law) (defScope s_law) .none kV27 dc27 pm27 an27 cd27 ct27), sl27⟩) (c27 : PySem.W.codeIn K cd27 "law" = true) (k27 : PySem.W.keepIn K (.ref f27) = true)
    (z_all : PySem.W.nsIn K mainGlobals "all" = some none) (z_any : PySem.W.nsIn K mainGlobals "any" = some none) (z_bool : PySem.W.nsIn K mainGlobals "bool" = some none) (z_dict : PySem.W.nsIn K mainGlobals "dict" = some none) (z_enumerate : PySem.W.nsIn K mainGlobals "enumerate" = some none) (z_int : PySem.W.nsIn K mainGlobals "int" = some none) (z_isinstance : PySem.W.nsIn K mainGlobals "isinstance" = some none) (z_len : PySem.W.nsIn K mainGlobals "len" = some none) (z_list : PySem.W.nsIn K mainGlobals "list" = some none) (z_min : PySem.W.nsIn K mainGlobals "min" = some none) (z_range : PySem.W.nsIn K mainGlobals "range" = some none) (z_sorted : PySem.W.nsIn K mainGlobals "sorted" = some none) (z_sum : PySem.W.nsIn K mainGlobals "sum" = some none) (z_tuple : PySem.W.nsIn K mainGlobals "tuple" = some none) (z_zip : PySem.W.nsIn K mainGlobals "zip" = some none) :
    ∃ fd : FuncData, (∀ (s : Shared) (v : Value), BindsTo s fd ⟨[v], []⟩ [("_law_script", v)]) ∧ ∀ base : Heap, K.In base → base.Ns mainGlobals mg → FnOk l.prog w K mg base CX0 171 fa fd ["_law_script"] (spLaw K) := by
  have e := hfa.symm.trans (PySem.W.mg_of X G a27)
  cases e
  have F_keys_of : Fd K mg "keys_of" s_keys_of f0 := fd_mk X G a0 l0 c0 k0
  have F_with_kids : Fd K mg "with_kids" s_with_kids f1 := fd_mk X G a1 l1 c1 k1
  have F_side_towards : Fd K mg "side_towards" s_side_towards f2 := fd_mk X G a2 l2 c2 k2
  have F_knot_at : Fd K mg "knot_at" s_knot_at f3 := fd_mk X G a3 l3 c3 k3
  have F_pages_tied : Fd K mg "pages_tied" s_pages_tied f4 := fd_mk X G a4 l4 c4 k4
  have F_burdens_by_key : Fd K mg "burdens_by_key" s_burdens_by_key f5 := fd_mk X G a5 l5 c5 k5
  have F_side_sums : Fd K mg "side_sums" s_side_sums f6 := fd_mk X G a6 l6 c6 k6
  have F_sums_over_shares : Fd K mg "sums_over_shares" s_sums_over_shares f7 := fd_mk X G a7 l7 c7 k7
  have F_made_costs : Fd K mg "made_costs" s_made_costs f8 := fd_mk X G a8 l8 c8 k8
  have F_costs_by_key : Fd K mg "costs_by_key" s_costs_by_key f9 := fd_mk X G a9 l9 c9 k9
  have F_tied_below : Fd K mg "tied_below" s_tied_below f10 := fd_mk X G a10 l10 c10 k10
  have F_least_cost : Fd K mg "least_cost" s_least_cost f11 := fd_mk X G a11 l11 c11 k11
  have F_cheapest : Fd K mg "cheapest" s_cheapest f12 := fd_mk X G a12 l12 c12 k12
  have F_never_rises : Fd K mg "never_rises" s_never_rises f13 := fd_mk X G a13 l13 c13 k13
  have F_is_at_most : Fd K mg "is_at_most" s_is_at_most f14 := fd_mk X G a14 l14 c14 k14
  have F_shows_cost : Fd K mg "shows_cost" s_shows_cost f15 := fd_mk X G a15 l15 c15 k15
  have F_law_pen : Fd K mg "_law_pen" s_law_pen f16 := fd_mk X G a16 l16 c16 k16
  have F_law_draw : Fd K mg "_law_draw" s_law_draw f17 := fd_mk X G a17 l17 c17 k17
  have F_law_put : Fd K mg "_law_put" s_law_put f18 := fd_mk X G a18 l18 c18 k18
  have F_law_keys : Fd K mg "_law_keys" s_law_keys f19 := fd_mk X G a19 l19 c19 k19
  have F_law_tree : Fd K mg "_law_tree" s_law_tree f20 := fd_mk X G a20 l20 c20 k20
  have F_law_weight : Fd K mg "_law_weight" s_law_weight f21 := fd_mk X G a21 l21 c21 k21
  have F_law_reckoned : Fd K mg "_law_reckoned" s_law_reckoned f22 := fd_mk X G a22 l22 c22 k22
  have F_law_ups : Fd K mg "_law_ups" s_law_ups f23 := fd_mk X G a23 l23 c23 k23
  have F_law_page_of : Fd K mg "_law_page_of" s_law_page_of f24 := fd_mk X G a24 l24 c24 k24
  have F_law_dear : Fd K mg "_law_dear" s_law_dear f25 := fd_mk X G a25 l25 c25 k25
  have F_law_raised : Fd K mg "_law_raised" s_law_raised f26 := fd_mk X G a26 l26 c26 k26
  have T : Tx K mg := ⟨PySem.W.mg_none_of X G z_all, PySem.W.mg_none_of X G z_any, PySem.W.mg_none_of X G z_bool, PySem.W.mg_none_of X G z_dict, PySem.W.mg_none_of X G z_enumerate, PySem.W.mg_none_of X G z_int, PySem.W.mg_none_of X G z_isinstance, PySem.W.mg_none_of X G z_len, PySem.W.mg_none_of X G z_list, PySem.W.mg_none_of X G z_min, PySem.W.mg_none_of X G z_range, PySem.W.mg_none_of X G z_sorted, PySem.W.mg_none_of X G z_sum, PySem.W.mg_none_of X G z_tuple, PySem.W.mg_none_of X G z_zip⟩
  refine ⟨PySem.W.fnOf "law" "law" (defArgs s_law) (defBody s_law) (defScope s_law) .none kV27 dc27 pm27 an27 cd27 ct27, fun s v => .of_eq rfl, fun base _ _ => ?_⟩
  have C_draw : Cal l.prog w K mg base CX0 1 "_law_draw" spDraw := ok_draw F_law_draw T
  have C_wk : Cal l.prog w K mg base CX0 80 "with_kids" (spWk 80) := ok_wk F_with_kids T 80
  have C_kof : Cal l.prog w K mg base CX0 80 "keys_of" (spKof 80) := ok_kof F_keys_of T 80
  have C_so := ok_so (P := l.prog) (w := w) (base := base) F_sums_over_shares T (ok_ss F_side_sums T)
  have C_at := ok_at (P := l.prog) (w := w) (base := base) F_knot_at T (ok_side F_side_towards T)
  have C_cheap := ok_cheap F_cheapest T (ok_burs F_burdens_by_key T C_kof C_wk) (ok_costs F_costs_by_key T C_wk C_at (ok_made F_made_costs T C_so)) (ok_pages F_pages_tied T C_wk) (ok_tb F_tied_below T C_so 80) (ok_least F_least_cost T) C_kof
  have C_shows := ok_shows F_shows_cost T C_kof (ok_burs F_burdens_by_key T C_kof C_wk) (ok_made F_made_costs T C_so) C_at (ok_never F_never_rises T) (ok_atm F_is_at_most T) (ok_least F_least_cost T)
  exact ok_law (fun_mk l27 c27 k27) T (ok_pen F_law_pen T) C_draw (ok_keys F_law_keys T C_draw) (ok_tree F_law_tree T C_draw (ok_put F_law_put T 70)) (ok_weight F_law_weight T C_draw) (ok_lups F_law_ups T 80) (ok_reck F_law_reckoned T 80) C_cheap (ok_pageof F_law_page_of T) (ok_dear F_law_dear T) C_shows (ok_raised F_law_raised T C_draw)
theorem walk {l : PySem.W.OpenLaw} {q : Program} {loose : List Str} {XP : (Str → Option Value) → Heap → Prop} {YP : World → Heap → Prop} {d : DefRec} {K : Params → PySem.W.Frag} (hn : l.most = some 63) (hdf : d.params.defaults = [])
    (hY : ∀ (w : World) (h : Heap), YP w h → (K w.params).In h)
    (F : ∀ (w : World) (mg : Str → Option Value) (fa : Addr) (h : Heap), (K w.params).In h → h.Ns mainGlobals mg → mg d.name = some (.ref fa) →
      ∃ fd : FuncData, (∀ (s : Shared) (u : Value), BindsTo s fd ⟨[u], []⟩ [("_law_script", u)]) ∧ ∀ base : Heap, (K w.params).In base → base.Ns mainGlobals mg → FnOk l.prog w (K w.params) mg base CX0 171 fa fd ["_law_script"] (spLaw (K w.params))) :
    PySem.W.WalkO q loose XP YP l.row.toRowW d [] (fun f vs => PySem.call f vs) :=
  L2.walk_of (n := 63) (k := 171) (x := "_law_script") (CX := fun _ => CX0) (sp := fun w => spLaw (K w.params)) hn (by decide) hdf ⟨rfl, by decide, by decide⟩ hY F (fun _ _ a ns hl _ hS => ⟨a, ns, rfl, hS, hl, fun _ => rfl⟩) fun _ _ _ _ _ z => z
end K18
open PySem PySem.W PyProof.Rows
set_option maxRecDepth 100000 in
set_option maxHeartbeats 0 in
theorem PySem.Challenge.cw_leafpages_k18_least_costs_told_holds : PySem.Challenge.rw_leafpages_k18_least_costs_told.Holds := by
  w_on; o_law; k_head; (case hw => w_witness2)
  k_fill
  refine K18.walk (l := PySem.Challenge.rw_leafpages_k18_least_costs_told) rfl rfl (fun w h Y => PySem.W.kIn_of Y) ?F
  case F =>
    intro w mg fa h KX G hmg
    refine' K18.all_mk KX G hmg ?a0 ?l0 ?c0 ?k0 ?a1 ?l1 ?c1 ?k1 ?a2 ?l2 ?c2 ?k2 ?a3 ?l3 ?c3 ?k3 ?a4 ?l4 ?c4 ?k4 ?a5 ?l5 ?c5 ?k5 ?a6 ?l6 ?c6 ?k6 ?a7 ?l7 ?c7 ?k7 ?a8 ?l8 ?c8 ?k8 ?a9 ?l9 ?c9 ?k9 ?a10 ?l10 ?c10 ?k10 ?a11 ?l11 ?c11 ?k11 ?a12 ?l12 ?c12 ?k12 ?a13 ?l13 ?c13 ?k13 ?a14 ?l14 ?c14 ?k14 ?a15 ?l15 ?c15 ?k15 ?a16 ?l16 ?c16 ?k16 ?a17 ?l17 ?c17 ?k17 ?a18 ?l18 ?c18 ?k18 ?a19 ?l19 ?c19 ?k19 ?a20 ?l20 ?c20 ?k20 ?a21 ?l21 ?c21 ?k21 ?a22 ?l22 ?c22 ?k22 ?a23 ?l23 ?c23 ?k23 ?a24 ?l24 ?c24 ?k24 ?a25 ?l25 ?c25 ?k25 ?a26 ?l26 ?c26 ?k26 ?a27 ?l27 ?c27 ?k27 ?z_all ?z_any ?z_bool ?z_dict ?z_enumerate ?z_int ?z_isinstance ?z_len ?z_list ?z_min ?z_range ?z_sorted ?z_sum ?z_tuple ?z_zip
    (case a0 => k_is)
    (case l0 => k_is)
    (case c0 => k_is)
    (case k0 => k_is)
    (case a1 => k_is)
    (case l1 => k_is)
    (case c1 => k_is)
    (case k1 => k_is)
    (case a2 => k_is)
    (case l2 => k_is)
    (case c2 => k_is)
    (case k2 => k_is)
    (case a3 => k_is)
    (case l3 => k_is)
    (case c3 => k_is)
    (case k3 => k_is)
    (case a4 => k_is)
    (case l4 => k_is)
    (case c4 => k_is)
    (case k4 => k_is)
    (case a5 => k_is)
    (case l5 => k_is)
    (case c5 => k_is)
    (case k5 => k_is)
    (case a6 => k_is)
    (case l6 => k_is)
    (case c6 => k_is)
    (case k6 => k_is)
    (case a7 => k_is)
    (case l7 => k_is)
    (case c7 => k_is)
    (case k7 => k_is)
    (case a8 => k_is)
    (case l8 => k_is)
    (case c8 => k_is)
    (case k8 => k_is)
    (case a9 => k_is)
    (case l9 => k_is)
    (case c9 => k_is)
    (case k9 => k_is)
    (case a10 => k_is)
    (case l10 => k_is)
    (case c10 => k_is)
    (case k10 => k_is)
    (case a11 => k_is)
    (case l11 => k_is)
    (case c11 => k_is)
    (case k11 => k_is)
    (case a12 => k_is)
    (case l12 => k_is)
    (case c12 => k_is)
    (case k12 => k_is)
    (case a13 => k_is)
    (case l13 => k_is)
    (case c13 => k_is)
    (case k13 => k_is)
    (case a14 => k_is)
    (case l14 => k_is)
    (case c14 => k_is)
    (case k14 => k_is)
    (case a15 => k_is)
    (case l15 => k_is)
    (case c15 => k_is)
    (case k15 => k_is)
    (case a16 => k_is)
    (case l16 => k_is)
    (case c16 => k_is)
    (case k16 => k_is)
    (case a17 => k_is)
    (case l17 => k_is)
    (case c17 => k_is)
    (case k17 => k_is)
    (case a18 => k_is)
    (case l18 => k_is)
    (case c18 => k_is)
    (case k18 => k_is)
    (case a19 => k_is)
    (case l19 => k_is)
    (case c19 => k_is)
    (case k19 => k_is)
    (case a20 => k_is)
    (case l20 => k_is)
    (case c20 => k_is)
    (case k20 => k_is)
    (case a21 => k_is)
    (case l21 => k_is)
    (case c21 => k_is)
    (case k21 => k_is)
    (case a22 => k_is)
    (case l22 => k_is)
    (case c22 => k_is)
    (case k22 => k_is)
    (case a23 => k_is)
    (case l23 => k_is)
    (case c23 => k_is)
    (case k23 => k_is)
    (case a24 => k_is)
    (case l24 => k_is)
    (case c24 => k_is)
    (case k24 => k_is)
    (case a25 => k_is)
    (case l25 => k_is)
    (case c25 => k_is)
    (case k25 => k_is)
    (case a26 => k_is)
    (case l26 => k_is)
    (case c26 => k_is)
    (case k26 => k_is)
    (case a27 => k_is)
    (case l27 => k_is)
    (case c27 => k_is)
    (case k27 => k_is)
    (case z_all => k_is)
    (case z_any => k_is)
    (case z_bool => k_is)
    (case z_dict => k_is)
    (case z_enumerate => k_is)
    (case z_int => k_is)
    (case z_isinstance => k_is)
    (case z_len => k_is)
    (case z_list => k_is)
    (case z_min => k_is)
    (case z_range => k_is)
    (case z_sorted => k_is)
    (case z_sum => k_is)
    (case z_tuple => k_is)
    (case z_zip => k_is)
